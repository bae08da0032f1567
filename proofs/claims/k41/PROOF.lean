import PyProof.Rows.All
import PySem.Challenge.RW_curvehouse_k41_a_run_walked
import KE.KItem
import KE.KLam
import KE.KNestM
import KE.KIsAll
import KE.KLcPair
import KE.RegMulBits
import KE.KFromBytes
set_option Elab.async false
set_option linter.all false
set_option maxRecDepth 100000
local macro_rules|`(())=>`(by omega)
local macro_rules|`(∅)=>`(by decide)
local macro_rules|`(⋯)=>`(by grind)
section
open PySem
abbrev qAa:=@List.length_map
abbrev qAb:=@List.getElem?_eq_getElem
abbrev qAc:=@Rat.le_refl
abbrev qAd:=@Nat.le_refl
abbrev qAe:=@Heap.get?_push_of_some
abbrev qAf:=@List.getElem?_eq_some_iff
abbrev qAg:=@List.getD_eq_getElem?_getD
abbrev qAh:=@List.getElem?_map
abbrev qAi:=@Heap.lt_size
abbrev qAj:=@Option.some.inj
abbrev qAk:=@List.mem_cons
abbrev qAl:=@Rat.intCast_mul
abbrev qAm:=@Bool.false_ne_true
abbrev qAn:=@List.length_append
abbrev qAo:=@List.mem_of_getElem?
abbrev qAp:=@Rat.le_of_lt
abbrev qAq:=@Nat.lt_of_lt_of_le
abbrev qAr:=@List.all_eq_true
abbrev qAs:=@List.size_toArray
abbrev qAt:=@List.length_range
abbrev qAu:=@List.mem_append
abbrev qAv:=@Nat.le_max_right
abbrev qAw:=@List.mem_singleton
abbrev qAx:=@PySem.F.plainAttrs_list
abbrev qAy:=@PySem.F.slot_list_append
abbrev qAz:=@PySem.F.type_list_append
abbrev qAA:=@Heap.get?_push_size
abbrev qAB:=@List.map_append
abbrev qAC:=@Rat.mul_nonneg
abbrev qAD:=@Nat.le_max_left
abbrev qAE:=@Rat.divInt_eq_div
abbrev qAF:=@Nat.ne_of_lt
abbrev qAG:=@Nat.le_trans
abbrev qAH:=@List.mem_cons_of_mem
abbrev qAI:=@List.getElem?_append_left
abbrev qAJ:=@List.mem_append_right
abbrev qAK:=@List.getElem?_append_right
abbrev qAL:=@List.mem_map
abbrev qAM:=@List.getElem?_eq_none_iff
abbrev qAN:=@List.mem_range
abbrev qAO:=@List.mem_cons_self
abbrev qAP:=@W.kia_one
abbrev qAQ:=@List.length_drop
abbrev qAR:=@Rat.not_lt
abbrev qAS:=@Nat.zero_le
abbrev qAT:=@List.length_take
abbrev qAU:=@List.length_cons
abbrev qAV:=@W.mg_none_of
abbrev qAW:=@Nat.lt_irrefl
abbrev qAX:=@List.mem_append_left
abbrev qAY:=@Rat.le_trans
abbrev qAZ:=@Nat.not_lt_zero
abbrev qA0:=@List.eq_nil_of_length_eq_zero
abbrev qA1:=@Int.mul_ne_zero
abbrev qA2:=@Bool.and_eq_true
abbrev qA3:=@List.getElem_mem
abbrev qA4:=@List.not_mem_nil
abbrev qA5:=@PyProof.Rows.boot_list
abbrev qA6:=@List.getElem?_range
abbrev qA7:=@List.map_congr_left
abbrev qA8:=@Int.toNat_natCast
abbrev qA9:=@PyProof.Rows.callWith_type1
abbrev qBa:=@List.getElem?_set_self
abbrev qBb:=@Nat.pow_succ
abbrev qBc:=@Rat.mul_pos
abbrev qBd:=@Int.fdiv_eq_ediv_of_nonneg
abbrev qBe:=@List.lookup_cons
abbrev qBf:=@List.getElem?_zip_eq_some
abbrev qBg:=@Rat.intCast_sub
abbrev qBh:=@Rat.mul_eq_zero
abbrev qBi:=@PyProof.Rows.boot_tuple
abbrev qBj:=@List.getElem_of_mem
abbrev qBk:=@Nat.add_sub_cancel
abbrev qBl:=@List.nodup_cons
abbrev qBm:=@Rat.intCast_add
abbrev qBn:=@Nat.two_pow_pos
abbrev qBo:=@F.slot_tuple_iterator_next
abbrev qBp:=@List.getElem?_set_ne
abbrev qBq:=@Nat.le_of_lt
abbrev qBr:=@Nat.ne_of_gt
abbrev qBs:=@Nat.lt_succ_self
abbrev qBt:=@List.map_map
abbrev qBu:=@Int.ne_of_gt
abbrev qBv:=@Rat.intCast_eq_zero_iff
abbrev qBw:=@W.mg_of
abbrev qBx:=@Bool.eq_iff_iff
abbrev qBy:=@Rat.intCast_pos
abbrev qBz:=@Rat.le_antisymm
abbrev qBA:=@Rat.intCast_inj
abbrev qBB:=@W.kitx_list
abbrev qBC:=@Rat.zero_mul
abbrev qBD:=@PyProof.Rows.boot_int
abbrev qBE:=@Nat.pow_le_pow_right
abbrev qBF:=@List.pairwise_append
abbrev qBG:=@Nat.le_add_right
abbrev qBH:=@List.map_drop
abbrev qBI:=@Int.mul_one
abbrev qBJ:=@Nat.le_succ
abbrev qBK:=@List.filterMap_cons
abbrev qBL:=@List.append_nil
abbrev qBM:=@List.pairwise_iff_getElem
abbrev qBN:=@List.mem_filterMap
abbrev qBO:=@List.filterMap_map
abbrev qBP:=@Nat.lt_trans
abbrev qBQ:=@Nat.one_le_two_pow
abbrev qBR:=@Rat.intCast_nonneg
abbrev qBS:=@Heap.size_push
abbrev qBT:=@Rat.not_le
abbrev qBU:=@Int.mul_nonneg
abbrev qBV:=@Int.mul_le_mul
abbrev qBW:=@List.ext_getElem?
abbrev qBX:=@W.cellsFrom_some
abbrev qBY:=@Int.fmod_nonneg_of_pos
abbrev qBZ:=@List.take_of_length_le
abbrev qB0:=@List.length_pos_of_mem
abbrev qB1:=@PyProof.Rows.boot_bool
abbrev qB2:=@List.map_cons
abbrev qB3:=@List.take_append_drop
abbrev qB4:=@List.getElem?_toArray
abbrev qB5:=@List.filterMap_eq_map
abbrev qB6:=@PyProof.Rows.boot_abs
abbrev qB7:=@PyProof.Rows.slot_tuple_getitem
abbrev qB8:=@List.of_mem_zip
abbrev qB9:=@List.length_set
abbrev qCa:=@List.getElem?_of_mem
abbrev qCb:=@List.mem_iff_getElem
abbrev qCc:=@F.slot_zip_next
abbrev qCd:=@Int.mul_fdiv_cancel
abbrev qCe:=@Int.natAbs_mul
abbrev qCf:=@W.kla_fn
abbrev qCg:=@F.args_tuple_iterator_next_1
abbrev qCh:=@Int.mul_pos
abbrev qCi:=@Rat.num_divInt_den
abbrev qCj:=@List.getElem?_drop
abbrev qCk:=@Int.fmod_lt_of_pos
abbrev qCl:=@Rat.div_mul_cancel
abbrev qCm:=@Rat.lt_of_le_of_ne
abbrev qCn:=@F.entry_tuple_iterator_next
abbrev qCo:=@Int.mul_assoc
abbrev qCp:=@Int.fmod_eq_emod_of_nonneg
abbrev qCq:=@List.map_take
abbrev qCr:=@List.getElem?_set
abbrev qCs:=@List.take_add_one
abbrev qCt:=@Option.isSome_iff_exists
abbrev qCu:=@PySem.F.args_tuple_add_2
abbrev qCv:=@Nat.add_comm
abbrev qCw:=@List.length_filterMap_le
abbrev qCx:=@PyProof.Rows.boot_sorted
abbrev qCy:=@Nat.sub_self
abbrev qCz:=@List.getElem?_replicate
abbrev qCA:=@PySem.F.entry_tuple_add
abbrev qCB:=@PyProof.Rows.intBits_le
abbrev qCC:=@List.pairwise_singleton
abbrev qCD:=@List.forIn_cons
abbrev qCE:=@PySem.F.slot_tuple_add
abbrev qCF:=@Heap.get?_update_other
abbrev qCG:=@Rat.intCast_lt_intCast
abbrev qCH:=@Heap.get?_update_self
abbrev qCI:=@List.filterMap_append
abbrev qCJ:=@Bool.and_true
abbrev qCK:=@Rat.lt_irrefl
end
namespace L2
open PySem
def Er (s:Stmt):Arguments:=match s with
 |.FunctionDef _ a _ _ _ _ _ _ _ _=>a
 |_=>{ posonlyargs:=[],args:=[],vararg:=none,kwonlyargs:=[],kw_defaults:=[],kwarg:=none,defaults:=[] }
def B4 (s:Stmt):List Stmt:=match s with
 |.FunctionDef _ _ b _ _ _ _ _ _ _=>b
 |_=>[]
def Ac (s:Stmt):Scope:=match s with
 |.FunctionDef _ _ _ _ _ _ sc _ _ _=>sc
 |_=>{ kind:=.function,names:=[],isGenerator:=false,isCoroutine:=false }
end L2
namespace L3
open PySem L2
abbrev rA (K:W.Frag)(n:Str)(f:Addr):Prop:=W.nsIn K mainGlobals n=some (some (.ref f))
abbrev rL (K:W.Frag)(f:Addr)(n:Str)(st:Stmt)(oc:Value)(od:Option Addr)(kV dc pm:Value)(an:Option Addr)(cd ct:Value)(sl:Array (Option Value)):Prop:=K.lookup f=some ⟨oc,od,.func (W.fnOf n n (Er st) (B4 st) (Ac st) .none kV dc pm an cd ct),sl⟩
abbrev rC (K:W.Frag)(cd:Value)(n:Str):Prop:=W.codeIn K cd n=true
abbrev rK (K:W.Frag)(f:Addr):Prop:=W.keepIn K (.ref f)=true
inductive Rw (K:W.Frag)(n:Str)(st:Stmt):Prop
 |mk {f:Addr}{oc:Value}{od:Option Addr}{kV dc pm:Value}{an:Option Addr}{cd ct:Value}{sl:Array (Option Value)}(a:rA K n f) (l:rL K f n st oc od kV dc pm an cd ct sl) (c:rC K cd n) (k:rK K f)
end L3
namespace CL
open PySem L2 L3
def top (i:Nat):Stmt:=PySem.Challenge.pw_curvehouse_k41_a_run_walked.main.body.getD i (.Pass ⟨0,0,0,0⟩)
abbrev D6:Stmt:=top 7
abbrev Gg:Stmt:=top 8
abbrev JN:Stmt:=top 11
abbrev M1:Stmt:=top 12
abbrev JK:Stmt:=top 13
abbrev JM:Stmt:=top 14
abbrev LU:Stmt:=top 15
abbrev Jm:Stmt:=top 16
abbrev Gy:Stmt:=top 17
abbrev Jy:Stmt:=top 19
abbrev Dh:Stmt:=top 20
abbrev DA:Stmt:=top 21
abbrev Fq:Stmt:=top 22
abbrev D1:Stmt:=top 23
abbrev DI:Stmt:=top 24
abbrev B5:Stmt:=top 25
abbrev Cv:Stmt:=top 26
abbrev BG:Stmt:=top 27
abbrev Gv:Stmt:=top 28
abbrev Dk:Stmt:=top 29
abbrev MP:Stmt:=top 31
abbrev Cb:Stmt:=top 32
abbrev BR:Stmt:=top 33
abbrev CM:Stmt:=top 34
abbrev M3:Stmt:=top 36
abbrev Du:Stmt:=top 37
abbrev Hx:Stmt:=top 39
abbrev Hu:Stmt:=top 40
abbrev Pu:Stmt:=top 42
abbrev DT:Stmt:=top 43
abbrev CU:Stmt:=top 45
abbrev Fh:Stmt:=top 46
abbrev Fc:Stmt:=top 47
abbrev Es:Stmt:=top 48
abbrev DV:Stmt:=top 49
abbrev DU:Stmt:=top 50
abbrev Gf:Stmt:=top 51
abbrev DD:Stmt:=top 52
abbrev DC:Stmt:=top 53
abbrev Dq:Stmt:=top 54
abbrev DQ:Stmt:=top 55
abbrev DY:Stmt:=top 56
abbrev DN:Stmt:=top 57
abbrev DW:Stmt:=top 58
abbrev Dr:Stmt:=top 59
abbrev DJ:Stmt:=top 60
abbrev En:Stmt:=top 61
abbrev DX:Stmt:=top 62
abbrev DO:Stmt:=top 63
abbrev Ep:Stmt:=top 64
abbrev FJ:Stmt:=top 65
inductive Facts (l:W.OpenLaw)(K:W.Frag):Prop
 |mk {kV dc pm cd ct oc:Value}{od an:Option Addr}{sl:Array (Option Value)}{fL K_NoCurve K_NoTime K_NoWay:Addr}{gt_NOUGHT_0:Tok}{gt_NOUGHT_1:Tok}{ga_NOUGHT_2:Addr}{gd_NOUGHT_3:Option Addr}{gn_NOUGHT_3:Nat}{gs_NOUGHT_3:Array (Option Value)}
  (r0:Rw K "is_whole" D6)
  (r1:Rw K "divisor" Gg)
  (r2:Rw K "ratio" JN)
  (r3:Rw K "plus" M1)
  (r4:Rw K "minus" JK)
  (r5:Rw K "times" JM)
  (r6:Rw K "over" LU)
  (r7:Rw K "under" Jm)
  (r8:Rw K "greater" Gy)
  (r9:Rw K "check_begin" Dh)
  (r10:Rw K "check_rise" DA)
  (r11:Rw K "slope_between" Cv)
  (r12:Rw K "slopes_behind" BG)
  (r13:Rw K "curve" Jy)
  (r14:Rw K "check_time" DI)
  (r15:Rw K "count_while" Dk)
  (r16:Rw K "piece_at" D1)
  (r17:Rw K "slope_of_piece" B5)
  (r18:Rw K "value_at" Fq)
  (r19:Rw K "time_of" Gv)
  (r20:Rw K "gap_points" CM)
  (r21:Rw K "corner_times" BR)
  (r22:Rw K "corner_rows" Cb)
  (r23:Rw K "less" MP)
  (r24:Rw K "comes_above" Du)
  (r25:Rw K "left" M3)
  (r26:Rw K "unused" Hu)
  (r27:Rw K "served" Hx)
  (r28:Rw K "check_ways" DT)
  (r29:Rw K "run" Pu)
  (r30:Rw K "_law_cell_at" CU)
  (r31:Rw K "_law_low" Fh)
  (r32:Rw K "_law_add" Fc)
  (r33:Rw K "_law_take" Es)
  (r34:Rw K "_law_up_to" DV)
  (r35:Rw K "_law_slope" DU)
  (r36:Rw K "_law_at" Gf)
  (r37:Rw K "_law_ratio" DD)
  (r38:Rw K "_law_curve" DC)
  (r39:Rw K "_law_slopes" Dq)
  (r40:Rw K "_law_drawn" DQ)
  (r41:Rw K "_law_few" DY)
  (r42:Rw K "_law_times" DN)
  (r43:Rw K "_law_alike" DW)
  (r44:Rw K "_law_leaves" Dr)
  (r45:Rw K "_law_spare" DJ)
  (r46:Rw K "_law_ways" En)
  (r47:Rw K "_law_story" DX)
  (r48:Rw K "_law_walks" DO)
  (r49:Rw K "_law_flat" Ep)
  (aL:rA K "law" fL) (lL:rL K fL "law" FJ oc od kV dc pm an cd ct sl) (cL:rC K cd "law") (kL:rK K fL)
  (z0:W.nsIn K mainGlobals "isinstance"=some none)
  (z1:W.nsIn K mainGlobals "int"=some none)
  (z2:W.nsIn K mainGlobals "bool"=some none)
  (z3:W.nsIn K mainGlobals "abs"=some none)
  (z4:W.nsIn K mainGlobals "len"=some none)
  (z5:W.nsIn K mainGlobals "range"=some none)
  (z6:W.nsIn K mainGlobals "tuple"=some none)
  (z7:W.nsIn K mainGlobals "enumerate"=some none)
  (z8:W.nsIn K mainGlobals "list"=some none)
  (z9:W.nsIn K mainGlobals "zip"=some none)
  (z10:W.nsIn K mainGlobals "sorted"=some none)
  (n_NoCurve:rA K "NoCurve" K_NoCurve)
  (n_NoTime:rA K "NoTime" K_NoTime)
  (n_NoWay:rA K "NoWay" K_NoWay)
  (n_NOUGHT:W.nsIn K mainGlobals "NOUGHT"=some (some (.ref ga_NOUGHT_2)))
  (n_gl_NOUGHT_6:K.lookup ga_NOUGHT_2=some ⟨.type "tuple",gd_NOUGHT_3,.seq #[(.int 0 gt_NOUGHT_0),(.int 1 gt_NOUGHT_1)] gn_NOUGHT_3,gs_NOUGHT_3⟩)
  (x_NoCurve:W.excIn K K_NoCurve [.type "ValueError",.type "Exception",.type "BaseException",.type "object"] "ValueError.__new__"=true)
  (x_NoTime:W.excIn K K_NoTime [.type "ValueError",.type "Exception",.type "BaseException",.type "object"] "ValueError.__new__"=true)
  (x_NoWay:W.excIn K K_NoWay [.type "ValueError",.type "Exception",.type "BaseException",.type "object"] "ValueError.__new__"=true)
  (ht_piece_at:(W.tabIn K "piece_at").isSome=true)
  (hp_piece_at:(PyProof.Rows.recsOf l.prog).any (fun d=>d.name == "piece_at")=true)
end CL
section
set_option maxRecDepth 100000
set_option maxHeartbeats 0
open PySem PySem.W PyProof.Rows
theorem HD.bo {a b:Bool}(x:a=true)(y:b=true):(a&&b)=true:=by rw [x,y];rfl
set_option maxHeartbeats 0 in
theorem HD.ws:OpenLaw.wellSaid PySem.Challenge.rw_curvehouse_k41_a_run_walked=true:=by
 delta OpenLaw.wellSaid;iterate 18 refine HD.bo ?_ (by decide +kernel)
 delta OpenRow.wellSaid;iterate 2 refine HD.bo ?_ (by decide +kernel)
 delta OpenRow.partSaid;iterate 13 refine HD.bo ?_ (by decide +kernel)
 delta looksOpen;iterate 5 refine HD.bo ?_ (by decide +kernel)
 decide +kernel
noncomputable abbrev HD.pr:Program:=(OpenLaw.row PySem.Challenge.rw_curvehouse_k41_a_run_walked).toRowW.prog
noncomputable def HD.qv:Program:={ PySem.Challenge.pw_curvehouse_k41_a_run_walked with main:={ PySem.Challenge.pw_curvehouse_k41_a_run_walked.main with body:=[CL.top 1,CL.top 2,CL.top 3,CL.top 4,CL.top 5,CL.top 7,CL.top 8,CL.top 10,CL.top 11,CL.top 12,CL.top 13,CL.top 14,CL.top 15,CL.top 16,CL.top 17,CL.top 19,CL.top 20,CL.top 21,CL.top 22,CL.top 23,CL.top 24,CL.top 25,CL.top 26,CL.top 27,CL.top 28,CL.top 29,CL.top 31,CL.top 32,CL.top 33,CL.top 34,CL.top 36,CL.top 37,CL.top 39,CL.top 40,CL.top 42,CL.top 43,CL.top 45,CL.top 46,CL.top 47,CL.top 48,CL.top 49,CL.top 50,CL.top 51,CL.top 52,CL.top 53,CL.top 54,CL.top 55,CL.top 56,CL.top 57,CL.top 58,CL.top 59,CL.top 60,CL.top 61,CL.top 62,CL.top 63,CL.top 64,CL.top 65] } }
structure HD.R where
 o:List Obj
 e:List DictEntry
 p:List Value
 s:List Value
 n:Nat
 k:Nat
 m:Value
def HD.tx:List Str->Nat->List Value
 |[],_=>[]
 |x::l,k=>.str x k::HD.tx l (k+1)
def HD.tu (l:List Value):Obj:=⟨.type "tuple",none,.seq l.toArray 0,#[]⟩
def HD.fo (c:Value)(l:List Value):Obj:=⟨c,none,.fields l.toArray,#[]⟩
def HD.co (x:Str)(k i j f:Nat)(a:Value)(b:Bool)(c d e t:Value)(k':Nat):Obj :=
 HD.fo (.type "code") [.str x k,.str x (k+1),.str "/claim/cut.py" (k+2),.int i 0,.int j 0,.int 0 0,.int 0 0,.int f 0,a,.bool b,.int 181 0,c,.none,d,e,t,.int k' 0,.int i 0,.str "/claim/cut.py" (k'+1)]
def HD.fd (x:Str)(p:Arguments)(b:List Stmt)(s:Scope)(g:Addr)(m c:Value):Data:=.func ⟨x,x,p,.stmts b,s,g,[],.none,.none,.none,m,none,c,.none,0⟩
def HD.en (P:Params)(x:Str)(k:Nat)(v:Value):DictEntry:=⟨PyData.keyHash P x,.str x k,v⟩
def HD.cl (P:Params)(x:Str)(q:Pos)(a k:Nat)(m:Value)(b:List Value)(mro:List Value)(s:List Value)(r:Bool):List Obj :=
 let u (j:Nat):Value:=.ref (a+j)
 let f:=HD.en P "__firstlineno__" (k+11) (.int q.line (k+10))
 let g:=HD.en P "__static_attributes__" (k+12) (u 7)
 let n:=HD.en P "__module__" (k+7) m
 [HD.tu b,HD.fo (.type "builtin_function_or_method") [.builtin "type.__prepare__",.type "type"],
  ⟨.type "dict",none,.dict [n,HD.en P "__qualname__" (k+9) (.str x (k+8)),f,g].toArray 4,#[]⟩,HD.tu [],HD.fo .none [],
  HD.co x (k+2) q.line 0 0 (u 3) false (u 4) .none .none .none (k+5),
  ⟨.type "frame",none,.plain,#[some (u 5),some (.ref 3),some (u 2),none,some m,none,some (.ref 0)]⟩,HD.tu [],
  ⟨.type "dict",none,.dict ([n,f,g]++(match r with|true=>[HD.en P "__weakref__" (k+14) (u 10),HD.en P "__doc__" (k+15) .none]|false=>[HD.en P "__doc__" (k+13) .none])).toArray (match r with|true=>3|false=>2),#[]⟩,
  ⟨.type "type",none,.cls ⟨x,b,u 9::mro,a+8,x,true,[],s,false,none,false⟩,#[some (u 0),none,some (.str x k),some (.str x (k+8)),some (.builtin "ValueError.__new__"),some (.bool true)]⟩] ++
 (match r with|true=>[HD.fo (.type "getset_descriptor") [.str "__weakref__" (k+13),u 9,.builtin "ExceptionGroup.__weakref__",.none]]|false=>[]) ++
 [HD.fo (.type "super") [u 9,u 9,u 9],HD.fo (.type "builtin_function_or_method") [.builtin "object.__init_subclass__",u 9]]
def HD.ve:List Value:=[.type "ValueError",.type "Exception",.type "BaseException",.type "object"]
def HD.cs:List PySem.Expr->Nat->List Value
 |.Constant (.int i) _ _::l,k=>.int i k::HD.cs l (k+1)
 |_,_=>[]
def HD.one (P:Params)(t:Stmt)(a k:Nat)(m:Value)(r:Nat->Nat->Value->HD.R):HD.R:=match t with
 |.FunctionDef x p b _ _ _ s _ _ q=>match localNames p s (.stmts b) with
  |some (y,z)=>match r (a+7) (k+3+y.length+z.length+3) m with
   |⟨o,e,l,u,n,i,j⟩=>⟨HD.tu []::HD.fo .none []::HD.tu (HD.tx y (k+3))::HD.tu (HD.tx z (k+3+y.length)) :: ⟨.none,none,HD.fd x p b s 0 .none .none,#[]⟩ ::
    HD.co x k q.line p.args.length 3 (.ref a) true (.ref (a+1)) (.ref (a+2)) (.ref (a+3)) (.ref (a+4)) (k+3+y.length+z.length) :: ⟨.type "function",none,HD.fd x p b s 3 m (.ref (a+5)),#[]⟩::o,
    HD.en P x (k+3+y.length+z.length+2) (.ref (a+6))::e,.int q.line 0 :: .int q.col 0 :: .ref (a+5)::l,u,n,i,j⟩
  |none=>match r (a+5) (k+6) m with
   |⟨o,e,l,u,n,i,j⟩=>⟨HD.tu []::HD.fo .none [] :: ⟨.none,none,HD.fd x p b s 0 .none .none,#[]⟩ ::
    HD.co x k q.line p.args.length 3 (.ref a) true (.ref (a+1)) .none .none (.ref (a+2)) (k+3) :: ⟨.type "function",none,HD.fd x p b s 3 m (.ref (a+3)),#[]⟩::o,
    HD.en P x (k+5) (.ref (a+4))::e,.int q.line 0 :: .int q.col 0 :: .ref (a+3)::l,u,n,i,j⟩
 |.ClassDef x _ _ _ _ _ _ _ _ _ q=>match Nat.beq a 15 with
  |true=>match r (a+13) (k+18) m with
   |⟨o,e,l,u,n,i,j⟩=>⟨HD.cl P x q a k m [.type "ValueError"] HD.ve u true++o,HD.en P x (k+17) (.ref (a+9))::e,.int q.line 0 :: .int q.col 0 :: .ref (a+5)::l,u,n,i,j⟩
  |false=>match r (a+12) (k+16) m with
   |⟨o,e,l,u,n,i,j⟩=>⟨HD.cl P x q a k m [.ref 24] (.ref 24::HD.ve) [] false++o,HD.en P x (k+15) (.ref (a+9))::e,.int q.line 0 :: .int q.col 0 :: .ref (a+5)::l,.ref (a+9)::u,n,i,j⟩
 |.Assign _ (.Constant (.str x) _ _) _=>r a (k+2) (.str x k)
 |.Assign [.Name x _] (.Tuple b _ _) _=>match r (a+1) (k+b.length+1) m with
  |⟨o,e,l,u,n,i,j⟩=>⟨HD.tu (HD.cs b k)::o,HD.en P x (k+b.length) (.ref a)::e,l,u,n,i,j⟩
 |_=>r a k m
def HD.go (P:Params):List Stmt->Nat->Nat->Value->HD.R
 |[],a,k,m=>⟨[],[],[],[],a,k,m⟩
 |t::l,a,k,m=>HD.one P t a k m (fun a k m=>HD.go P l a k m)
def HD.alt:List Obj->List Obj
 |x::_::l=>x::HD.alt l
 |l=>l
def HD.bt:Nat->List Obj->BT
 |n+1,x::l=>.node x (HD.bt n (HD.alt l)) (HD.bt n (HD.alt l.tail))
 |_,_=>.nil
def HD.bu:Nat->List Obj->BT
 |n+1,x::l=>.node x (HD.bu n (HD.alt l)) (HD.bu n (HD.alt l.tail))
 |_,_=>.nil
noncomputable def HD.ob (P:Params)(r:HD.R):List Obj :=
 boot_o_0 P::boot_o_1 P::boot_o_2 P::(match boot_o_3 P with
  |⟨c,d,.dict es n,s⟩=>(match es.toList with
   |x::l=>⟨c,d,.dict (⟨x.hash,x.key,r.m⟩::(l++r.e)).toArray (n+r.e.length),s⟩
   |[]=>default)
  |o=>o)::boot_o_4 P::boot_o_5 P::boot_o_6 P::boot_o_7 P::boot_o_8 P::boot_o_9 P::boot_o_10 P::HD.tu []::HD.fo .none r.p ::
 HD.co "<module>" 182 1 0 0 (.ref 11) false (.ref 12) .none .none .none 185 :: ⟨.type "frame",none,.plain,#[some (.ref 13),some (.ref 3),some (.ref 3),none,some (.str "__main__" 164),none,some (.ref 0)]⟩::r.o
noncomputable def HD.S (f:Nat->List Obj->BT)(l:List Stmt)(P:Params)(os:OsState):SharedT :=
 match HD.go P l 15 187 (.str "__main__" 164) with
 |r=>⟨f 12 (HD.ob P r),r.n,(boot_heap P).life,Array.mk [],boot_drawn,r.k,os⟩
theorem HD.ap {tb:String->Option Builtin}{p:Program}{w:World}{n₀:Nat}{ann:Option Value}{env:Env}{q:Pos}{n N:Nat}{s s':SharedT}{r:Shared}{l:List Stmt}{c:Code}{pos p':Pos}(i:Nat) (h:segRunT tb p w n₀ ann 1 n s (piecesOf (l.take i) env c pos [topFrame q])=some (.next,s',c,p'))
 (k:topRun tb p w n₀ ann N s'.abs (restOf (l.drop i) env c p' [topFrame q])=some r):topRun tb p w n₀ ann (n+N) s.abs (restOf l env c pos [topFrame q])=some r:=by
 have:=piece_app (segRun_of h) k
 rwa [qB3] at this
theorem HD.ae {tb:String->Option Builtin}{p:Program}{w:World}{n₀:Nat}{ann:Option Value}{env:Env}{q:Pos}{n N:Nat}{s s':SharedT}{r:Shared}{l:List Stmt}{c:Code}{pos p':Pos}(h:segRunT tb p w n₀ ann 1 n s (piecesOf l env c pos [topFrame q])=some (.next,s',c,p'))
 (k:topRun tb p w n₀ ann N s'.abs ⟨doneF .next,c,p',[topFrame q]⟩=some r):topRun tb p w n₀ ann (n+N) s.abs (restOf l env c pos [topFrame q])=some r:=by
 have:=piece_app (rest:=[]) (segRun_of h) (piece_nil k)
 rwa [qBL] at this
noncomputable def HD.ok (p:Program)(w:World)(s:Shared):Bool :=
 staticsOk (importedModules p.main.body) (boot_heap w.params) s.heap&&namesBound p s.heap &&
 gensDone s&&laidKept (boot_heap w.params) s.heap
theorem HD.lo {p q:Program}{Xt:Shared->Bool}{α:Type}{Yf:Shared->α}{Ya:World->α}{N M k:Nat}{H:Params->Heap}(le:Nat.ble M N=true)
 (o:∀w:World,(fencedOpening treeTable p w N).map (fun s=>(s.heap,s.gens,s.drawn,s.toks))=some (boot_heap w.params,Array.mk [],boot_drawn,boot_toks))
 (r:∀(w:World)(os:OsState),topRun treeTable p w 11 (some (.ref 6)) M ⟨boot_heap w.params,Array.mk [],boot_drawn,boot_toks,os⟩ (topStub p)=some ⟨H w.params,Array.mk [],boot_drawn,k,os⟩)
 (a:∀(w:World)(os:OsState),(HD.ok p w ⟨H w.params,Array.mk [],boot_drawn,k,os⟩,openSeen q [] (importedModules p.main.body) Xt true ⟨H w.params,Array.mk [],boot_drawn,k,os⟩)=(true,openGood q []))
 (b:∀(w:World)(os:OsState),Yf ⟨H w.params,Array.mk [],boot_drawn,k,os⟩=Ya w):LeftO p q [] Xt Yf Ya N true :=
 LeftO.of_pieces o (fun w=>by kernel_rfl) r le fun w=>funext fun os=>by
  obtain⟨e,f⟩:=Prod.mk.inj (a w os)
  exact looks_pair e (looks_pair f (b w os))
theorem HD.tri {β γ δ ε ζ η θ ι κ:Type}{b:Bool}{x y:β×γ×δ×ε×ζ×η×θ×ι×κ}(h0:b=true) (h1:x.1=y.1) (h2:x.2.1=y.2.1) (h3:x.2.2.1=y.2.2.1) (h4:x.2.2.2.1=y.2.2.2.1) (h5:x.2.2.2.2.1=y.2.2.2.2.1) (h6:x.2.2.2.2.2.1=y.2.2.2.2.2.1) (h7:x.2.2.2.2.2.2.1=y.2.2.2.2.2.2.1) (h8:x.2.2.2.2.2.2.2.1=y.2.2.2.2.2.2.2.1) (h9:x.2.2.2.2.2.2.2.2=y.2.2.2.2.2.2.2.2):(b,x)=(true,y) :=
 Prod.ext h0 (Prod.ext h1 (Prod.ext h2 (Prod.ext h3 (Prod.ext h4 (Prod.ext h5 (Prod.ext h6 (Prod.ext h7 (Prod.ext h8 h9))))))))
theorem HD.op (w:World):(fencedOpening treeTable HD.pr w 5658).map (fun s=>(s.heap,s.gens,s.drawn,s.toks))=some (boot_heap w.params,Array.mk [],boot_drawn,boot_toks):=boot_open (by kernel_rfl) (by decide +kernel) (fun s=>by kernel_rfl) w
noncomputable def HD.bd:List Stmt:=behindTheImports HD.pr
noncomputable def HD.ev:Env:={ scope:=HD.pr.main.scope,locals:=3,globals:=3,cells:=[],code:=.ref 13,frame:=some 14 }
noncomputable def HD.cE:Code:=.body HD.bd HD.ev
noncomputable def HD.H (P:Params):Heap:=absHeap (HD.S HD.bt HD.bd P default).tree 422 (boot_heap P).life
noncomputable def HD.Z (w:World)(os:OsState):Shared:=⟨HD.H w.params,Array.mk [],boot_drawn,778,os⟩
theorem HD.pre (w:World)(os:OsState):topGo treeTable HD.pr w 11 (some (.ref 6)) 12 ⟨boot_heap w.params,Array.mk [],boot_drawn,boot_toks,os⟩ (topStub HD.pr)=some ((HD.S HD.bt [] w.params os).abs,⟨denote treeTable HD.cE,HD.cE,⟨0,0,0,0⟩,[topFrame ⟨0,0,0,0⟩]⟩):=by kernel_rfl
theorem HD.blk (w:World)(os:OsState):segRun treeTable HD.pr w 11 (some (.ref 6)) 1 1 (HD.S HD.bt [] w.params os).abs (blockOf HD.bd HD.ev HD.cE ⟨0,0,0,0⟩ [topFrame ⟨0,0,0,0⟩])=some (.next,(HD.S HD.bt [] w.params os).abs,HD.cE,⟨0,0,0,0⟩):=by kernel_rfl
theorem HD.q0 (w:World)(os:OsState):segRunT treeTable HD.pr w 11 (some (.ref 6)) 1 835 (HD.S HD.bt [] w.params os) (piecesOf (HD.bd.take 5) HD.ev HD.cE ⟨0,0,0,0⟩ [topFrame ⟨0,0,0,0⟩])=some (.next,(HD.S HD.bu (HD.bd.take 5) w.params os),HD.cE,⟨8,0,9,8⟩):=by kernel_rfl
theorem HD.q1 (w:World)(os:OsState):segRunT treeTable HD.pr w 11 (some (.ref 6)) 1 559 (HD.S HD.bu (HD.bd.take 5) w.params os) (piecesOf ((HD.bd.drop 5).take 15) HD.ev HD.cE ⟨8,0,9,8⟩ [topFrame ⟨0,0,0,0⟩])=some (.next,(HD.S HD.bt (HD.bd.take 20) w.params os),HD.cE,⟨49,0,59,30⟩):=by kernel_rfl
theorem HD.q2 (w:World)(os:OsState):segRunT treeTable HD.pr w 11 (some (.ref 6)) 1 658 (HD.S HD.bt (HD.bd.take 20) w.params os) (piecesOf (((HD.bd.drop 5).drop 15).take 25) HD.ev HD.cE ⟨49,0,59,30⟩ [topFrame ⟨0,0,0,0⟩])=some (.next,(HD.S HD.bu (HD.bd.take 45) w.params os),HD.cE,⟨174,0,174,8⟩):=by kernel_rfl
theorem HD.q3 (w:World)(os:OsState):segRunT treeTable HD.pr w 11 (some (.ref 6)) 1 681 (HD.S HD.bu (HD.bd.take 45) w.params os) (piecesOf (((HD.bd.drop 5).drop 15).drop 25) HD.ev HD.cE ⟨174,0,174,8⟩ [topFrame ⟨0,0,0,0⟩])=some (.next,(HD.S HD.bt HD.bd w.params os),HD.cE,⟨343,0,364,75⟩):=by kernel_rfl
theorem HD.fn (w:World)(os:OsState):topRun treeTable HD.pr w 11 (some (.ref 6)) 2 (HD.S HD.bt HD.bd w.params os).abs ⟨doneF .next,HD.cE,⟨343,0,364,75⟩,[topFrame ⟨0,0,0,0⟩]⟩=some (HD.Z w os):=by kernel_rfl
theorem HD.run (w:World)(os:OsState):topRun treeTable HD.pr w 11 (some (.ref 6)) (12+(1+(835+(559+(658+(681+2)))))) ⟨boot_heap w.params,Array.mk [],boot_drawn,boot_toks,os⟩ (topStub HD.pr)=some (HD.Z w os):=go_top (HD.pre w os) (piece_block (HD.blk w os) (HD.ap 5 (HD.q0 w os) (HD.ap 15 (HD.q1 w os) (HD.ap 25 (HD.q2 w os) (HD.ae (HD.q3 w os) (HD.fn w os))))))
noncomputable abbrev HD.xt:Shared->Bool:=fun s=>xlAt HD.qv [] s&&recOk (RowW.records (OpenRow.toRowW (OpenLaw.row PySem.Challenge.rw_curvehouse_k41_a_run_walked))) s
noncomputable abbrev HD.sn (w:World)(os:OsState):=openSeen HD.qv [] (importedModules HD.pr.main.body) HD.xt true (HD.Z w os)
theorem HD.l0 (w:World)(os:OsState):HD.ok HD.pr w (HD.Z w os)=true:=by kernel_rfl
theorem HD.l1 (w:World)(os:OsState):(HD.sn w os).1=expectedOf HD.qv:=by kernel_rfl
theorem HD.l2 (w:World)(os:OsState):(HD.sn w os).2.1=bltViewBooted:=by kernel_rfl
theorem HD.l3 (w:World)(os:OsState):(HD.sn w os).2.2.1=true:=by kernel_rfl
theorem HD.l4 (w:World)(os:OsState):(HD.sn w os).2.2.2.1=true:=by kernel_rfl
theorem HD.l5 (w:World)(os:OsState):(HD.sn w os).2.2.2.2.1=pinGoodD (drecsOf HD.qv):=by kernel_rfl
theorem HD.l6 (w:World)(os:OsState):(HD.sn w os).2.2.2.2.2.1=plainGoodE HD.qv (looseW HD.qv []):=by kernel_rfl
theorem HD.l7 (w:World)(os:OsState):(HD.sn w os).2.2.2.2.2.2.1=plainGoodD HD.qv []:=by kernel_rfl
theorem HD.l8 (w:World)(os:OsState):(HD.sn w os).2.2.2.2.2.2.2.1=wideGood HD.qv:=by kernel_rfl
theorem HD.l9 (w:World)(os:OsState):(HD.sn w os).2.2.2.2.2.2.2.2=clsGoodW HD.qv []:=by kernel_rfl
theorem HD.lA (w:World)(os:OsState):(HD.ok HD.pr w (HD.Z w os),HD.sn w os)=(true,openGood HD.qv []):=HD.tri (HD.l0 w os) (HD.l1 w os) (HD.l2 w os) (HD.l3 w os) (HD.l4 w os) (HD.l5 w os) (HD.l6 w os) (HD.l7 w os) (HD.l8 w os) (HD.l9 w os)
end
section
open PySem PySem.W PyProof.Rows
local macro_rules|`(tactic| o_head $H)=>`(tactic| (
 refine holds_open (q:=HD.qv) (loose:=[]) (N:=5658)
  (Xt:=(fun s=>xlAt HD.qv [] s&&recOk (RowW.records (OpenRow.toRowW (OpenLaw.row PySem.Challenge.rw_curvehouse_k41_a_run_walked))) s))
  (XP:=XL HD.qv []) (Yf:=Hook.obs $H) (Ya:=Hook.val $H)
  (YP:=Hook.says $H) ?hl (Hook.of $H) (Hook.keeps $H)
  (fun s e=>xl_of s (Bool.and_eq_true_iff.mp e).1) XL.keeps (by rfl) (by rfl) (by rfl)
  (fun s e=>recFacts_of (Bool.and_eq_true_iff.mp e).2) (by rfl) (by first|assumption|decide +kernel)
  (by decide +kernel) ⟨rfl,rfl,rfl,rfl,rfl,by decide +kernel⟩ ?hw ?hc
 case hl =>
  refine HD.lo (by decide +kernel) HD.op HD.run HD.lA ?_
  intro w os
  kernel_rfl))
set_option maxRecDepth 100000 in
set_option maxHeartbeats 0 in
theorem CL.front (hF:∀{q:Program}{loose:List Str}{XP:(Str->Option Value)->Heap->Prop}{YP:World->Heap->Prop}{d:DefRec}{K:Params->W.Frag},d.params.defaults=[]->(∀y:Str,(recsOf PySem.Challenge.rw_curvehouse_k41_a_run_walked.prog).any (fun d=>d.name==y)=true->(recsOf q).any (fun d=>d.name==y)=true)->(∀(w:World)(h:Heap),YP w h->(K w.params).In h)->(∀w:World,W.noTabs (K w.params)=true)->d.name="law"->(∀w:World,CL.Facts PySem.Challenge.rw_curvehouse_k41_a_run_walked (K w.params))->W.WalkO q loose XP YP PySem.Challenge.rw_curvehouse_k41_a_run_walked.row.toRowW d [] (fun f vs=>PySem.call f vs)):PySem.Challenge.rw_curvehouse_k41_a_run_walked.Holds:=by
 w_on;refine holds_law HD.ws fun said=>?_;k_head;(case hw=>w_witness2)
 k_fill
 refine hF rfl (fun _ h=>h) (fun w h Y=>W.km_in_of Y) (fun w=>?nt) rfl (fun w=>?F)
 case nt=>kernel_rfl
 case F =>
  refine' CL.Facts.mk (.mk ?a0 ?l0 ?c0 ?k0) (.mk ?a1 ?l1 ?c1 ?k1) (.mk ?a2 ?l2 ?c2 ?k2) (.mk ?a3 ?l3 ?c3 ?k3) (.mk ?a4 ?l4 ?c4 ?k4) (.mk ?a5 ?l5 ?c5 ?k5) (.mk ?a6 ?l6 ?c6 ?k6) (.mk ?a7 ?l7 ?c7 ?k7) (.mk ?a8 ?l8 ?c8 ?k8) (.mk ?a9 ?l9 ?c9 ?k9) (.mk ?a10 ?l10 ?c10 ?k10) (.mk ?a11 ?l11 ?c11 ?k11) (.mk ?a12 ?l12 ?c12 ?k12) (.mk ?a13 ?l13 ?c13 ?k13) (.mk ?a14 ?l14 ?c14 ?k14) (.mk ?a15 ?l15 ?c15 ?k15) (.mk ?a16 ?l16 ?c16 ?k16) (.mk ?a17 ?l17 ?c17 ?k17) (.mk ?a18 ?l18 ?c18 ?k18) (.mk ?a19 ?l19 ?c19 ?k19) (.mk ?a20 ?l20 ?c20 ?k20) (.mk ?a21 ?l21 ?c21 ?k21) (.mk ?a22 ?l22 ?c22 ?k22) (.mk ?a23 ?l23 ?c23 ?k23) (.mk ?a24 ?l24 ?c24 ?k24) (.mk ?a25 ?l25 ?c25 ?k25) (.mk ?a26 ?l26 ?c26 ?k26) (.mk ?a27 ?l27 ?c27 ?k27) (.mk ?a28 ?l28 ?c28 ?k28) (.mk ?a29 ?l29 ?c29 ?k29) (.mk ?a30 ?l30 ?c30 ?k30) (.mk ?a31 ?l31 ?c31 ?k31) (.mk ?a32 ?l32 ?c32 ?k32) (.mk ?a33 ?l33 ?c33 ?k33) (.mk ?a34 ?l34 ?c34 ?k34) (.mk ?a35 ?l35 ?c35 ?k35) (.mk ?a36 ?l36 ?c36 ?k36) (.mk ?a37 ?l37 ?c37 ?k37) (.mk ?a38 ?l38 ?c38 ?k38) (.mk ?a39 ?l39 ?c39 ?k39) (.mk ?a40 ?l40 ?c40 ?k40) (.mk ?a41 ?l41 ?c41 ?k41) (.mk ?a42 ?l42 ?c42 ?k42) (.mk ?a43 ?l43 ?c43 ?k43) (.mk ?a44 ?l44 ?c44 ?k44) (.mk ?a45 ?l45 ?c45 ?k45) (.mk ?a46 ?l46 ?c46 ?k46) (.mk ?a47 ?l47 ?c47 ?k47) (.mk ?a48 ?l48 ?c48 ?k48) (.mk ?a49 ?l49 ?c49 ?k49) ?aL ?lL ?cL ?kL ?z0 ?z1 ?z2 ?z3 ?z4 ?z5 ?z6 ?z7 ?z8 ?z9 ?z10 ?n_NoCurve ?n_NoTime ?n_NoWay ?n_NOUGHT ?n_gl_NOUGHT_6 ?x_NoCurve ?x_NoTime ?x_NoWay ?ht_piece_at ?hp_piece_at
  case a0|l0|c0|k0|a1|l1|c1|k1|a2|l2|c2|k2|a3|l3|c3|k3|a4|l4|c4|k4|a5|l5|c5|k5|a6|l6|c6|k6|a7|l7|c7|k7|a8|l8|c8|k8|a9|l9|c9|k9|a10|l10|c10|k10|a11|l11|c11|k11|a12|l12|c12|k12|a13|l13|c13|k13|a14|l14|c14|k14|a15|l15|c15|k15|a16|l16|c16|k16|a17|l17|c17|k17|a18|l18|c18|k18|a19|l19|c19|k19|a20|l20|c20|k20|a21|l21|c21|k21|a22|l22|c22|k22|a23|l23|c23|k23|a24|l24|c24|k24|a25|l25|c25|k25|a26|l26|c26|k26|a27|l27|c27|k27|a28|l28|c28|k28|a29|l29|c29|k29|a30|l30|c30|k30|a31|l31|c31|k31|a32|l32|c32|k32|a33|l33|c33|k33|a34|l34|c34|k34|a35|l35|c35|k35|a36|l36|c36|k36|a37|l37|c37|k37|a38|l38|c38|k38|a39|l39|c39|k39|a40|l40|c40|k40|a41|l41|c41|k41|a42|l42|c42|k42|a43|l43|c43|k43|a44|l44|c44|k44|a45|l45|c45|k45|a46|l46|c46|k46|a47|l47|c47|k47|a48|l48|c48|k48|a49|l49|c49|k49|aL|lL|cL|kL|z0|z1|z2|z3|z4|z5|z6|z7|z8|z9|z10|n_NoCurve|n_NoTime|n_NoWay|n_NOUGHT|n_gl_NOUGHT_6=>(show _=_;k_is)
  case x_NoCurve|x_NoTime|x_NoWay|ht_piece_at|hp_piece_at=>kernel_rfl
end
local macro_rules|`(#[$xs,*])=>`(⟨$xs,*⟩)
namespace L2
open PySem PySem.Spec PyProof.Rows
abbrev Key:=Sum Int Str
def Rh:Key->Value->Bool
 |.inl k,v=>Value.isInt k v
 |.inr x,v=>Value.isStrOf x v
def Vi (w:World):Key->Int
 |.inl k=>hashInt k
 |.inr x=>hashStr w x
theorem Ba:∀{k:Key}{v:Value},Rh k v=true->(∃i t,k=Sum.inl i/\v=Value.int i t)\/(∃x t,k=Sum.inr x/\v=Value.str x t)
 |.inl i,v,h=>by
  obtain⟨t,e⟩:=Value.isInt_shape (k:=i) (v:=v) h
  exact .inl #[i,t,rfl,e]
 |.inr x,v,h=>by
  obtain⟨t,e⟩:=Value.isStrOf_shape (x:=x) (v:=v) h
  exact .inr #[x,t,rfl,e]
theorem SG (a b:Int):decide ((Sum.inl a:Key)=Sum.inl b)=(a==b):=by
 by_cases e:a=b
 .subst e;simp
 .have h:¬(Sum.inl a:Key)=Sum.inl b:=fun q=>e (Sum.inl.inj q)
  rw[decide_eq_false h]
  exact(beq_eq_false_iff_ne.mpr e).symm
theorem Rz (a b:Str):decide ((Sum.inr a:Key)=Sum.inr b)=decide (a=b):=by
 by_cases e:a=b
 .subst e;simp
 .have h:¬(Sum.inr a:Key)=Sum.inr b:=fun q=>e (Sum.inr.inj q)
  rw[decide_eq_false h,decide_eq_false e]
theorem Q7 (a:Int)(b:Str):decide ((Sum.inl a:Key)=Sum.inr b)=false:=decide_eq_false (fun q=>nomatch q)
theorem SH (a:Str)(b:Int):decide ((Sum.inr a:Key)=Sum.inl b)=false:=decide_eq_false (fun q=>nomatch q)
def MS (prog:Program)(w:World):PySem.KeyKind prog w Key where
 is:=Rh
 hash:=Vi w
 inj:=fun v a b ha hb=>by
  rcases Ba ha with⟨i,t,rfl,rfl⟩|⟨x,t,rfl,rfl⟩
  .rcases Ba hb with⟨j,u,rfl,e⟩|⟨y,u,rfl,e⟩
   .injection e with e1 _;rw[e1]
   .exact nomatch e
  .rcases Ba hb with⟨j,u,rfl,e⟩|⟨y,u,rfl,e⟩
   .exact nomatch e
   .injection e with e1 _;rw[e1]
 byValue:=fun k v h=>by
  rcases Ba h with⟨i,t,rfl,rfl⟩|⟨x,t,rfl,rfl⟩<;>rfl
 pyHash:=fun hv h=>by
  rcases Ba hv with⟨i,t,rfl,rfl⟩|⟨x,t,rfl,rfl⟩
  .exact wpAny_pyHash_int h
  .exact wpAny_pyHash_str h
 eqBool:=fun hu hv h=>by
  rcases Ba hu with⟨i,t,rfl,rfl⟩|⟨x,t,rfl,rfl⟩
  .rcases Ba hv with⟨j,u,rfl,rfl⟩|⟨y,u,rfl,rfl⟩
   .rw[SG] at h;exact wpAny_eqBool_int h
   .rw[Q7] at h;exact SeqAt.EqAt.int_str i t y u _ _ _ _ h
  .rcases Ba hv with⟨j,u,rfl,rfl⟩|⟨y,u,rfl,rfl⟩
   .rw[SH] at h;exact SeqAt.EqAt.str_int x t j u _ _ _ _ h
   .rw[Rz] at h;exact wpAny_eqBool_str h
 «strs»:=fun k x t v h=>by
  rcases Ba h with⟨i,u,rfl,e⟩|⟨y,u,rfl,e⟩
  .exact nomatch e
  .injection e with e1 _
   subst e1
   cases v<;>rfl
inductive V where
 |non|bl (b:Bool)|int (i:Int)|str (x:Str)|byt (b:Array UInt8)|flt (b:UInt64)|ref (a:Addr)|ty (n:String)
 deriving DecidableEq
def BF:V->Value->Prop
 |.non,u=>u=Value.none
 |.bl b,u=>u=Value.bool b
 |.int i,u=>∃t,u=Value.int i t
 |.str x,u=>∃t,u=Value.str x t
 |.byt b,u=>∃t,u=Value.bytes b t
 |.flt b,u=>∃t,u=Value.float b t
 |.ref a,u=>u=Value.ref a
 |.ty n,u=>u=Value.type n
abbrev Bt:List V->List Value->Prop:=Paired BF
theorem Bt.length {xs:List V}{us:List Value}(r:Bt xs us):xs.length=us.length:=Paired.length r
theorem Bt.get:∀{xs:List V}{us:List Value}{i:Nat}{x:V},Bt xs us->xs[i]? = some x->∃u,us[i]? = some u/\BF x u
 |_,_,_,_,.nil,e=>by simp at e
 |_,_,0,_,.cons r _,e=>by simp at e;subst e;exact#[_,rfl,r]
 |_,_,i+1,x,.cons _ t,e=>by
  obtain⟨u,h1,h2⟩:=Bt.get (i:=i) (x:=x) t (by simpa using e)
  exact#[u,by simpa using h1,h2]
theorem Bt.set {x:V}{u:Value}(r:BF x u):∀{xs:List V}{us:List Value}(i:Nat),Bt xs us->Bt (xs.set i x) (us.set i u)
 |_,_,_,.nil=>.nil
 |_,_,0,.cons _ t=>.cons r t
 |_,_,i+1,.cons q t=>.cons q (Bt.set r i t)
theorem Bt.append:∀{xs ys:List V}{us ws:List Value},Bt xs us->Bt ys ws->Bt (xs++ys) (us++ws)
 |_,_,_,_,.nil,s=>s
 |_,_,_,_,.cons r t,s=>.cons r (Bt.append t s)
theorem Bt.take:∀{xs:List V}{us:List Value}(n:Nat),Bt xs us->Bt (xs.take n) (us.take n)
 |_,_,0,_=>.nil
 |_,_,_+1,.nil=>.nil
 |_,_,n+1,.cons r t=>.cons r (Bt.take n t)
theorem Bt.drop:∀{xs:List V}{us:List Value}(n:Nat),Bt xs us->Bt (xs.drop n) (us.drop n)
 |_,_,0,r=>r
 |_,_,_+1,.nil=>.nil
 |_,_,n+1,.cons _ t=>Bt.drop n t
def TN:Option V->Option Value->Prop
 |some v,some u=>BF v u
 |none,none=>True
 |_,_=>False
def KV {κ:Type}:List (κ×V)->List (κ×Value)->Prop:=Paired fun(p:κ×V)(q:κ×Value)=>p.1=q.1/\BF p.2 q.2
def kV:Key->V
 |.inl i=>.int i
 |.inr x=>.str x
inductive HO where
 |lst (xs:List V)
 |tup (xs:List V)
 |dK (kvs:List (Key×V))|dT (kvs:List (List Key×V))
 |set (S:Int->Bool) (n:Nat)
 |ins (C dx:Addr) (fs:List (Str×V))
 |own (x:Addr)
 |xd (fs:List (Str×V))
 |met (f x:Addr)
 |rng (lo hi:Int)
 |frz (o:Obj) (u:HO)
 |tbl (ps:Array Value)
 |ext (φ:Heap->Prop)
abbrev Hp:=Addr->Option HO
def upd (H:Hp)(a:Addr)(o:HO):Hp:=fun b=>if b=a then some o else H b
theorem Aj {H:Hp}{a:Addr}{o:HO}:upd H a o a=some o:=by unfold upd;rw[if_pos rfl]
theorem Af {H:Hp}{a b:Addr}{o:HO}(h:b≠a):upd H a o b=H b:=by unfold upd;rw[if_neg h]
theorem As {H:Hp}{a b:Addr}{o:HO}(h:H a=some o) (h':H b=none):a≠b:=by
 intro e;subst e;rw[h] at h';cases h'
def Jp (H:Hp)(h:Heap)(a:Addr):Prop:=∃tab:Array Value,h.get? a=some { cls:=.none,data:=.fields tab }/\TriplesOk tab.toList /\
 ∀(pos:Pos)(cv:Value),codeAmong pos tab.toList=some cv->∃(c:Addr)(oc:Obj)(fs:Array Value)(nm:Str)(t:Nat),cv=.ref c/\H c=some (.frz oc (.own a))/\oc.data=.fields fs/\fs[1]? = some (.str nm t)
theorem Jp.stay {H H':Hp}{h h':Heap}{a:Addr}(x:Jp H h a) (k:∀o,h.get? a=some o->h'.get? a=some o) (hf:∀b o u,H b=some (.frz o u)->H' b=some (.frz o u)):Jp H' h' a:=by
 obtain⟨tab,e,tr,q⟩:=x
 refine#[tab,k _ e,tr,fun pos cv z=>?_]
 obtain⟨c,oc,fs,nm,t,z1,z2,z3⟩:=q pos cv z
 exact#[c,oc,fs,nm,t,z1,hf _ _ _ z2,z3]
section
variable (P:Program) (w:World)
def Ca (H:Hp)(h:Heap)(a:Addr):HO->Prop
 |.lst xs=>xs.length<=sizeLine/\∃(its:List Value)(n:Nat),Bt xs its/\h.get? a=some { cls:=.type "list",data:=.seq its.toArray n }
 |.tup xs=>xs.length<=sizeLine/\∃its:List Value,Bt xs its/\IsTup h a its.toArray
 |.dK kvs=>kvs.length<=sizeLine/\(a==sysModules)=false/\∃vs,KV kvs vs/\h.DictOf (MS P w) a vs
 |.dT kvs=>kvs.length<=sizeLine/\(a==sysModules)=false/\∃xs:List (List Key×Addr×Value),
  Paired (fun(p:List Key×V)(q:List Key×Addr×Value)=>p.1=q.1/\H q.2.1=some (.tup (p.1.map kV))/\BF p.2 q.2.2) kvs xs /\
  ∃o es ep,h.get? a=some o/\o.ExactDict/\o.data=.dict es ep/\es.toList=xs.map (entryOfKey (tupleKind (MS P w)))/\(xs.map (·.1)).Nodup
 |.set S n=>h.SetOf (intKind P w) a S n
 |.ins C dx fs=>H dx=some (.own a)/\fs.length<=1000/\dx≠a/\h.get? a=some (W.instObj C dx) /\
  ∃mA,h.Ns1 dx mA/\(∀f,TN (fs.lookup f) (mA f))/\PySem.Within mA (fs.map (·.1))
 |.own _=>∃o,h.get? a=some o
 |.xd fs=>∃mA,h.Ns1 a mA/\∀f,TN (fs.lookup f) (mA f)
 |.rng lo hi=>∃t u v,h.get? a=some { cls:=.type "range",data:=.fields (List.toArray [.int lo t,.int hi u,.int 1 v]) }
 |.frz o u=>h.get? a=some o/\Ca H h a u
 |.tbl _=>Jp H h a
 |.met f x=>h.get? a=some (W.methodObj (.ref f) (.ref x))
 |.ext φ=>φ h/\(∃o,h.get? a=some o)/\∀h1 h2:Heap,φ h1->(∀o,h1.get? a=some o->h2.get? a=some o)->φ h2
def HOk (H:Hp)(h:Heap):Prop:=∀a o,H a=some o->Ca P w H h a o
end
section
variable {P:Program}{w:World}{H H':Hp}{h h':Heap}{a:Addr}{o:HO}
theorem Ca.lt (x:Ca P w H h a o):a<h.objs.size:=by
 cases o with
 |lst xs=>obtain⟨_,_,_,_,e⟩:=x;exact qAi e
 |tup xs=>obtain⟨_,_,_,p⟩:=x;exact p.lt
 |dK kvs=>obtain⟨_,_,_,_,o,_,_,e,_⟩:=x;exact qAi e
 |dT kvs=>obtain⟨_,_,_,_,o,_,_,e,_⟩:=x;exact qAi e
 |set S n=>obtain⟨o,_,_,_,e,_⟩:=x;exact qAi e
 |ins C dx fs=>obtain⟨_,_,_,e,_⟩:=x;exact qAi e
 |own y=>obtain⟨_,e⟩:=x;exact qAi e
 |xd fs=>obtain⟨_,⟨_,_,_,e,_⟩,_⟩:=x;exact qAi e
 |rng lo hi=>obtain⟨_,_,_,e⟩:=x;exact qAi e
 |frz ob u=>obtain⟨e,_⟩:=x;exact qAi e
 |tbl ps=>obtain⟨_,e,_⟩:=x;exact qAi e
 |met f y=>exact qAi (show h.get? a=some _ from x)
 |ext φ=>obtain⟨_,⟨_,e⟩,_⟩:=x;exact qAi e
theorem Paired.mapP {α β:Type}{F G:α->β->Prop}:∀{l₁:List α}{l₂:List β},Paired F l₁ l₂->(∀a b,F a b->G a b)->Paired G l₁ l₂
 |_,_,.nil,_=>.nil
 |_,_,.cons r t,f=>.cons (f _ _ r) (Paired.mapP t f)
theorem Ca.stay (x:Ca P w H h a o)(k:∀b u,(b=a\/H b=some (.own a))->h.get? b=some u->h'.get? b=some u)
 (ho:∀b,H b=some (.own a)->H' b=some (.own a))(ht:∀b xs,H b=some (.tup xs)->H' b=some (.tup xs))(hf:∀b o u,H b=some (.frz o u)->H' b=some (.frz o u):=by intro _ _ _ q;exact q):Ca P w H' h' a o:=by
 induction o with
 |lst xs=>obtain⟨z,its,n,r,e⟩:=x;exact#[z,its,n,r,k _ _ (.inl rfl) e]
 |tup xs=>obtain⟨z,its,r,ob,e,c⟩:=x;exact#[z,its,r,ob,k _ _ (.inl rfl) e,c]
 |dK kvs=>obtain⟨z,y,vs,r,ob,es,ep,e,c⟩:=x;exact#[z,y,vs,r,ob,es,ep,k _ _ (.inl rfl) e,c]
 |dT kvs =>
  obtain⟨z,y,xs,r,ob,es,ep,e,c⟩:=x
  exact#[z,y,xs,Paired.mapP r fun p q z=>#[z.1,ht _ _ z.2.1,z.2.2],ob,es,ep,k _ _ (.inl rfl) e,c]
 |set S n=>obtain⟨ob,es,ep,t,e,c⟩:=x;exact#[ob,es,ep,t,k _ _ (.inl rfl) e,c]
 |ins C dx fs =>
  obtain⟨d,z,ne,e,mA,⟨od,es,ep,e2,c⟩,r⟩:=x
  exact#[ho _ d,z,ne,k _ _ (.inl rfl) e,mA,#[od,es,ep,k _ _ (.inr d) e2,c],r]
 |own y=>obtain⟨ob,e⟩:=x;exact#[ob,k _ _ (.inl rfl) e]
 |xd fs=>obtain⟨mA,⟨od,es,ep,e,c⟩,r⟩:=x;exact#[mA,#[od,es,ep,k _ _ (.inl rfl) e,c],r]
 |rng lo hi=>obtain⟨t,u,v,e⟩:=x;exact#[t,u,v,k _ _ (.inl rfl) e]
 |frz ob u ih=>obtain⟨e,q⟩:=x;exact#[k _ _ (.inl rfl) e,ih q]
 |tbl ps=>exact Jp.stay x (fun u q=>k _ _ (.inl rfl) q) hf
 |met f y =>
  have e:h.get? a=some (W.methodObj (.ref f) (.ref y)):=x
  show h'.get? a=some (W.methodObj (.ref f) (.ref y))
  exact k a _ (.inl rfl) e
 |ext φ=>obtain⟨p,⟨o,e⟩,st⟩:=x;exact#[st _ _ p fun o q=>k _ _ (.inl rfl) q,#[o,k _ _ (.inl rfl) e],st]
theorem HOk.lt (x:HOk P w H h)(e:H a=some o):a<h.objs.size:=(x a o e).lt
theorem HOk.fresh (x:HOk P w H h)(e:h.objs.size<=a):H a=none:=by
 cases q:H a with
 |none=>rfl
 |some u=>exact absurd (qAq (x.lt q) e) (qAW _)
theorem HOk.kept (x:HOk P w H h)(k:∀b u,h.get? b=some u->h'.get? b=some u):HOk P w H h':=fun a o e =>
 (x a o e).stay (fun b u _ q=>k b u q) (fun _ q=>q) fun _ _ q=>q
theorem HOk.laid (x:HOk P w H h)(k:∀b u,h.get? b=some u->h'.get? b=some u)(hp:h.objs.size<=a)(new:Ca P w (upd H a o) h' a o):HOk P w (upd H a o) h':=fun b u e=>by
 have hn:=x.fresh hp
 by_cases hb:b=a
 .subst hb;rw[Aj] at e;cases e;exact new
 .rw[Af hb] at e
  exact(x b u e).stay (hf:=fun c w1 w2 q=>by rw[Af (As q hn)];exact q) (fun c v _ q=>k c v q) (fun c q=>by rw[Af (As q hn)];exact q) fun c xs q=>by rw[Af (As q hn)];exact q
end
def Rd (H:Hp)(a:Addr)(u:HO):Prop:=H a=some u\/∃o,H a=some (.frz o u)
theorem Rd.ok {P:Program}{w:World}{H:Hp}{h:Heap}{a:Addr}{u:HO}(r:Rd H a u) (x:HOk P w H h):Ca P w H h a u:=by
 rcases r with r|⟨o,r⟩
 .exact x a u r
 .obtain⟨_,q⟩:=x a _ r
  exact q
def Mut:Option HO->Prop
 |some (.lst _)=>True
 |some (.dK _)=>True
 |some (.dT _)=>True
 |some (.set _ _)=>True
 |some (.ins _ _ _)=>True
 |some (.ext _)=>True
 |_=>False
section
variable {P:Program}{w:World}{H:Hp}{h h':Heap}{x e:Addr}{o':HO}
theorem HOk.write (ok:HOk P w H h)(mu:Mut (H x))(he:e=x\/H e=some (.own x))(k:∀b u,b≠e->h.get? b=some u->h'.get? b=some u)(heo:∃u,h'.get? e=some u)
 (new:Ca P w (upd H x o') h' x o'):HOk P w (upd H x o') h':=fun b u q=>by
 have nown:∀c y,H c=some (.own y)->c≠x:=fun c y r z=>by subst z;rw[r] at mu;exact mu
 have ntup:∀c xs,H c=some (.tup xs)->c≠x:=fun c xs r z=>by subst z;rw[r] at mu;exact mu
 by_cases hb:b=x
 .subst hb;rw[Aj] at q;cases q;exact new
 .rw[Af hb] at q
  by_cases hbe:b=e
  .have q':H b=some (.own x):=by
    rcases he with z|z
    .exact absurd (hbe.trans z) hb
    .rw[hbe];exact z
   rw[q] at q';cases q'
   obtain⟨v,hv⟩:=heo
   exact#[v,by rw[hbe];exact hv]
  .refine(ok b u q).stay (hf:=fun c w1 w2 r=>by rw[Af (fun z=>by subst z;rw[r] at mu;exact mu)];exact r) (fun c v hc r=>k c v ?_ r) (fun c r=>by rw[Af (nown c b r)];exact r) fun c xs r=>by rw[Af (ntup c xs r)];exact r
   rcases hc with rfl|hc
   .exact hbe
   .rintro rfl
    rcases he with z|z
    .exact nown c b hc z
    .rw[hc] at z;cases z;exact hb rfl
end
structure Un (fs ex:List Addr)(H H':Hp)(h h':Heap):Prop where
 keep:∀b o,h.get? b=some o->H b=none->b∉fs->b∉ex->h'.get? b=some o
 slot:∀b o,h.get? b=some o->H b=none->b∈fs->b∉ex->∃sl,h'.get? b=some { o with slots:=sl }
 free:∀b o,h.get? b=some o->H b=none->b∉ex->H' b=none
 there:∀b o,h.get? b=some o->b∉ex->∃o',h'.get? b=some o'
 tups:∀b xs,H b=some (.tup xs)->H' b=some (.tup xs)
 frzs:∀b o u,H b=some (.frz o u)->H' b=some (.frz o u)
 tbls:∀b ps,H b=some (.tbl ps)->∃more,H' b=some (.tbl (ps++more))
section
variable {fs fs' ex ex':List Addr}{H H1 H2:Hp}{h h1 h2 h':Heap}{a x e:Addr}{o:HO}
theorem Un.any (u:Un fs ex H H1 h h1){b:Addr}{ob:Obj}(q:h.get? b=some ob) (n:H b=none) (hx:b∉ex):∃sl,h1.get? b=some { ob with slots:=sl }:=by
 by_cases hb:b∈fs
 .exact u.slot b ob q n hb hx
 .exact#[ob.slots,u.keep b ob q n hb hx]
theorem Un.kept (k:∀b u,h.get? b=some u->h'.get? b=some u):Un fs ex H H h h' :=
 #[fun b ob q _ _ _=>k b ob q,fun b ob q _ _ _=>#[ob.slots,k b ob q],fun _ _ _ n _=>n,fun b ob q _=>#[ob,k b ob q],fun _ _ q=>q,fun _ _ _ q=>q,fun _ ps q=>#[(List.toArray []),by rw[q];simp]]
theorem Un.refl:Un fs ex H H h h:=Un.kept fun _ _ q=>q
theorem Un.laid (k:∀b u,h.get? b=some u->h'.get? b=some u)(hp:h.objs.size<=a)(hn:H a=none):Un fs ex H (upd H a o) h h' where
 keep:=fun b u q _ _ _=>k b u q
 slot:=fun b u q _ _ _=>#[u.slots,k b u q]
 free:=fun b u q n _=>by rw[Af (qAF (qAq (qAi q) hp))];exact n
 there:=fun b u q _=>#[u,k b u q]
 tups:=fun b xs q=>by rw[Af (As q hn)];exact q
 frzs:=fun b u xs q=>by rw[Af (As q hn)];exact q
 tbls:=fun b ps q=>#[(List.toArray []),by rw[Af (As q hn),q];simp]
theorem Un.write (mu:Mut (H x))(he:e=x\/H e=some (.own x))(k:∀b u,b≠e->h.get? b=some u->h'.get? b=some u)(heo:∃u,h'.get? e=some u):Un fs ex H (upd H x o) h h':=by
 have hx:∀b,H b=none->b≠x:=fun b n z=>by subst z;rw[n] at mu;exact mu
 have hb:∀b,H b=none->b≠e:=fun b n z=>by
  subst z
  rcases he with r|r
  .exact hx b n r
  .rw[n] at r;cases r
 have hm:∀b u,H b=some u->¬Mut (some u)->b≠x:=fun b u q nm z=>by subst z;rw[q] at mu;exact nm mu
 refine#[fun b u q n _ _=>k b u (hb b n) q,fun b u q n _ _=>#[u.slots,k b u (hb b n) q],fun b u q n _=>by rw[Af (hx b n)];exact n,fun b u q _=>?_,
  fun b xs q=>by rw[Af (hm b _ q fun z=>z)];exact q,fun b u xs q=>by rw[Af (hm b _ q fun z=>z)];exact q,fun b ps q=>#[(List.toArray []),by rw[Af (hm b _ q fun z=>z),q];simp]]
 by_cases hbe:b=e
 .subst hbe;exact heo
 .exact#[u,k b u hbe q]
end
def trk (h:Heap)(H:Hp):List Addr:=(List.range h.objs.size).filter fun a=>(H a).isSome
def Np (h:Heap)(H:Hp):Heap:=W.hideAll h (trk h H)
theorem LZ (h:Heap)(H:Hp):(Np h H).objs.size=h.objs.size:=W.hideAll_size _ _
theorem NP {h:Heap}{H:Hp}{b:Addr}{o:Obj}(e:h.get? b=some o) (n:H b=none):(Np h H).get? b=some o :=
 W.hideAll_get _ e fun hm=>by
  have q:(H b).isSome=true:=(List.mem_filter.mp hm).2
  rw[n] at q;simp at q
theorem Qt {h:Heap}{H:Hp}{b:Addr}{o:Obj}(e:(Np h H).get? b=some o):h.get? b=some o/\H b=none:=by
 have e':h.get? b=some o:=W.of_hideAll (trk h H) e
 refine#[e',?_]
 cases q:H b with
 |none=>rfl
 |some x =>
  have hm:b∈trk h H:=List.mem_filter.mpr #[qAN.mpr (qAi e'),by simp[q]]
  have z:(Np h H).get? b=none:=W.hideAll_none (trk h H) hm
  rw[z] at e;cases e
structure Mod (K:W.Frag)(mg:Str->Option Value)(base:Heap):Prop where
 kin:K.In base
 glob:base.Ns mainGlobals mg
 blt:∃mb,base.Ns builtinsNs mb/\∀x:Str,x≠"__name__"->mb x=bootBuiltins x
 nolimit:base.NoLimit
structure Cx where
 prog:Program
 w:World
 K:W.Frag
 mg:Str->Option Value
 base:Heap
 A:Around
 N:List Str
 s₀:Shared
 H₀:Hp
 env:Env
 outer:List Env
 stack:List Env
 ex:List Addr
 fn:Str->Bool
 calm:Bool
 pn:List (Addr×Obj)
 xe:Value->Shared->Prop
 lent:Option (Nat×Addr):=none
def frs (l:List Env):List Addr:=l.filterMap (·.frame)
abbrev Cx.fs (X:Cx):List Addr:=frs X.outer
def Vis (sc:Scope)(x:Str):Prop:=sc.names.lookup x=some .local\/sc.names.lookup x=some .cell\/sc.names.lookup x=some .free
def Loc (sc:Scope)(x:Str):Prop:=sc.names.lookup x=some .local\/sc.names.lookup x=some .cell
def U4 (env:Env)(h:Heap)(m:Str->Option Value)(x:Str)(u:Value):Prop :=
 (env.kindOf x=some .local/\m x=some u)\/((env.kindOf x=some .cell\/env.kindOf x=some .free)/\∃c,env.cells.lookup x=some c/\h.IsCell c (some u))
structure TB (P:Program)(K:W.Frag)(mg:Str->Option Value)(base:Heap)(H:Hp):Prop where
 bm:∃(b:Addr)(o:Obj),mg "__builtins__"=some (.ref b)/\b≠builtinsNs/\base.get? b=some o/\o.cls=.type "module"/\o.dict=some builtinsNs/\o.data=.plain
 tab:∀(x:Str)(c T:Addr),W.tabIn K x=some (c,T)->(recsOf P).any (fun d=>d.name==x)=true->W.CodeHd base c T/\∃ps,H T=some (.tbl ps)
structure Cx.Ok (X:Cx):Prop where
 mod:Mod X.K X.mg X.base
 kind:X.env.scope.kind=.function
 glob:X.env.globals=mainGlobals
 blt:X.env.builtins=builtinsNs
 above:X.s₀.heap.objs.size<=X.env.locals
 inj:∀x y c,X.env.cells.lookup x=some c->X.env.cells.lookup y=some c->x=y
 has:∀x,(X.env.kindOf x=some .cell\/X.env.kindOf x=some .free)->∃c,X.env.cells.lookup x=some c
 cab:∀x c,X.fn x=true->X.env.cells.lookup x=some c->X.s₀.heap.objs.size<=c
 hd:X.calm=true->X.A.handled=none
 frames:X.A.frames=some X.stack
 stk:X.stack=X.outer\/(X.stack=X.env::X.outer/\X.env.frame=some X.env.locals)
 exf:∀b∈X.ex,b≠X.env.locals/\∀x c,X.env.cells.lookup x=some c->c≠b
 bs:∀b o,X.base.get? b=some o->X.s₀.heap.get? b=some o/\X.H₀ b=none
 bsz:X.base.objs.size<=X.s₀.heap.objs.size
 noex:∀b o,X.base.get? b=some o->b∉X.ex
 exfs:∀b∈X.ex,b∉X.fs
 funs:X.s₀.heap.FunFrames X.base X.outer
 frf:∀b∈X.fs,X.H₀ b=none
 tb:TB X.prog X.K X.mg X.base X.H₀
structure Inv (X:Cx)(pins:List (Addr×Obj))(σ:List (Option V))(H:Hp)(s:Shared):Prop where
 ok:X.Ok
 os:s.os=X.s₀.os
 bare:AllBare s.gens
 base:Un X.fs X.ex X.H₀ H X.s₀.heap s.heap
 loc:∃m,s.heap.Ns X.env.locals m/\∀(i:Nat)(x:Str)(v:V),X.N[i]? = some x->σ[i]? = some (some v)->Vis X.env.scope x->∃u,BF v u/\U4 X.env s.heap m x u
 cell:∀x c,X.env.cells.lookup x=some c->∃v,s.heap.IsCell c v
 free:H X.env.locals=none
 freeC:∀x c,X.env.cells.lookup x=some c->H c=none
 pin:∀p∈X.pn++pins,s.heap.get? p.1=some p.2/\H p.1=none/\p.1≠X.env.locals/\p.1∉X.fs/\∀v,p.2.data≠.cell v
 hok:HOk X.prog X.w H s.heap
 len:σ.length=X.N.length
section
variable {X:Cx}{pins:List (Addr×Obj)}{σ:List (Option V)}{H H':Hp}{s:Shared}{h':Heap}
theorem Cx.Ok.nofr (ok:X.Ok){b:Addr}{o:Obj}(e:X.base.get? b=some o):b∉X.fs:=fun hb=>by
 have:=(ok.funs.mem hb).1
 rw[e] at this;cases this
theorem Inv.bs (I:Inv X pins σ H s):∀b o,X.base.get? b=some o->s.heap.get? b=some o/\H b=none:=fun b o e =>
 #[I.base.keep b o (I.ok.bs b o e).1 (I.ok.bs b o e).2 (I.ok.nofr e) (I.ok.noex b o e),I.base.free b o (I.ok.bs b o e).1 (I.ok.bs b o e).2 (I.ok.noex b o e)]
theorem Inv.bk (I:Inv X pins σ H s):∀b o,X.base.get? b=some o->s.heap.get? b=some o:=fun b o e=>(I.bs b o e).1
theorem Inv.tb (I:Inv X pins σ H s):TB X.prog X.K X.mg X.base H:=#[I.ok.tb.bm,fun x c T h1 h2=>by
 obtain⟨z,ps,e⟩:=I.ok.tb.tab x c T h1 h2
 obtain⟨more,e'⟩:=I.base.tbls T ps e
 exact#[z,_,e']]
theorem Inv.mod (I:Inv X pins σ H s):Mod X.K X.mg X.base:=I.ok.mod
theorem Inv.kIn (I:Inv X pins σ H s):X.K.In s.heap:=I.ok.mod.kin.keeps I.bk
theorem Inv.lt (I:Inv X pins σ H s):X.env.locals<s.heap.objs.size:=let #[_,hn,_]:=I.loc;hn.lt
theorem Inv.sz (I:Inv X pins σ H s):X.s₀.heap.objs.size<=s.heap.objs.size:=qAG I.ok.above (qBq I.lt)
theorem Inv.nofs (I:Inv X pins σ H s){a:Addr}(h:s.heap.objs.size<=a):a∉X.fs:=fun hb=>by
 obtain⟨_,o,ho,_⟩:=I.ok.funs.mem hb
 exact absurd (qAq (qAi ho) (qAG I.sz h)) (qAW _)
theorem Inv.cne (I:Inv X pins σ H s):∀x c,X.env.cells.lookup x=some c->c≠X.env.locals:=fun x c e z=>by
 obtain⟨v,o,ho,hd⟩:=I.cell x c e
 obtain⟨m,⟨o',es,ep,ho',hd',_⟩,_⟩:=I.loc
 rw[z,ho'] at ho;cases ho;rw[hd'] at hd;cases hd
theorem Inv.funs (I:Inv X pins σ H s):s.heap.FunFrames X.base X.outer:=by
 have all:∀(l:List Env),(∀b∈frs l,b∈X.fs)->X.s₀.heap.FunFrames X.base l->s.heap.FunFrames X.base l:=by
  intro l
  induction l with
  |nil=>intro _ _;trivial
  |cons env r ih =>
   intro hs hl
   obtain⟨hk,⟨L,o,hf,hn,ho,hd⟩,hr⟩:=hl
   have hL:L∈X.fs:=hs L (by unfold frs;rw[qBK,hf];exact qAO)
   obtain⟨sl,e⟩:=I.base.slot L o ho (I.ok.frf L hL) hL fun z=>I.ok.exfs L z hL
   exact#[hk,#[L,_,hf,hn,e,hd],ih (fun b hb=>hs b (by unfold frs;rw[qBK,hf];exact qAH _ hb)) hr]
 exact all X.outer (fun _ hb=>hb) I.ok.funs
theorem Inv.stack (I:Inv X pins σ H s):s.heap.FunFrames X.base X.stack:=by
 rcases I.ok.stk with e|⟨e,hf⟩
 .rw[e];exact I.funs
 .rw[e]
  obtain⟨m,hn,_⟩:=I.loc
  refine .cons (by rw[I.ok.kind];decide) hf hn ?_ I.funs
  exact Heap.get?_none_of_le (qAG I.ok.bsz I.ok.above)
theorem Inv.stkSub (I:Inv X pins σ H s):∀b∈frs X.stack,b∈X.env.locals::X.fs:=fun b hb=>by
 rcases I.ok.stk with e|⟨e,hf⟩
 .rw[e] at hb;exact qAH _ hb
 .rw[e] at hb
  unfold frs at hb
  rw[qBK,hf] at hb
  exact hb
theorem Inv.stkFree (I:Inv X pins σ H s):∀b∈frs X.stack,H b=none:=fun b hb=>by
 rcases qAk.mp (I.stkSub b hb) with e|hb
 .rw[e];exact I.free
 .obtain⟨_,o,ho,_⟩:=I.ok.funs.mem hb
  exact I.base.free b o ho (I.ok.frf b hb) fun z=>I.ok.exfs b z hb
theorem Inv.step {g':Array GenState}{t':Nat}{d':Drawn}{ch:List Addr}(I:Inv X pins σ H s)
 (hch:∀b∈ch,(b∈X.ex\/X.s₀.heap.objs.size<=b)/\b≠X.env.locals/\(∀x c,X.env.cells.lookup x=some c->c≠b)/\∀p∈X.pn++pins,p.1≠b)
 (keep:∀b o,b≠X.env.locals->b∉X.fs->b∉ch->s.heap.get? b=some o->H b=none->h'.get? b=some o)
 (slot:∀b o,b≠X.env.locals->b∈X.fs->b∉ch->s.heap.get? b=some o->H b=none->∃sl,h'.get? b=some { o with slots:=sl }) (free:∀b o,b∉ch->s.heap.get? b=some o->H b=none->H' b=none)
 (there:∀b o,b∉ch->s.heap.get? b=some o->∃o',h'.get? b=some o')
 (tups:∀b xs,H b=some (.tup xs)->H' b=some (.tup xs)) (frzs:∀b o u,H b=some (.frz o u)->H' b=some (.frz o u)) (tbls:∀b ps,H b=some (.tbl ps)->∃more,H' b=some (.tbl (ps++more)))
 (ns:∀m,s.heap.Ns X.env.locals m->h'.Ns X.env.locals m) (hok:HOk X.prog X.w H' h') (hg:AllBare g') :
 Inv X pins σ H' { s with heap:=h',gens:=g',drawn:=d',toks:=t' }:=by
 have neL:∀b o,X.s₀.heap.get? b=some o->b≠X.env.locals:=fun b o e=>qAF (qAq (qAi e) I.ok.above)
 have neC:∀b o,X.s₀.heap.get? b=some o->b∉X.ex->b∉ch:=fun b o e hx hb=>by
  rcases(hch b hb).1 with z|z
  .exact hx z
  .exact absurd (qAq (qAi e) z) (qAW _)
 have cellK:∀x c,X.env.cells.lookup x=some c->∀v,s.heap.IsCell c v->h'.IsCell c v:=fun x c e v hh=>by
  obtain⟨o,ho,hd⟩:=hh
  have nch:c∉ch:=fun z=>(hch c z).2.2.1 x c e rfl
  by_cases hc:c∈X.fs
  .obtain⟨sl,q⟩:=slot c o (I.cne x c e) hc nch ho (I.freeC x c e)
   exact#[_,q,hd]
  .exact#[o,keep c o (I.cne x c e) hc nch ho (I.freeC x c e),hd]
 refine#[I.ok,I.os,hg,#[fun b o e n hb hx=>?_,fun b o e n hb hx=>?_,fun b o e n hx=>?_,fun b o e hx=>?_,fun b xs e=>tups b xs (I.base.tups b xs e),fun b o xs e=>frzs b o xs (I.base.frzs b o xs e),fun b ps e=>?_],?_,fun x c e=>?_,?_,fun x c e=>?_,fun p hp=>?_,hok,I.len]
 .exact keep b o (neL b o e) hb (neC b o e hx) (I.base.keep b o e n hb hx) (I.base.free b o e n hx)
 .obtain⟨sl,e1⟩:=I.base.slot b o e n hb hx
  obtain⟨sl',e2⟩:=slot b _ (neL b o e) hb (neC b o e hx) e1 (I.base.free b o e n hx)
  exact#[sl',e2]
 .obtain⟨o',e1⟩:=I.base.there b o e hx
  exact free b o' (neC b o e hx) e1 (I.base.free b o e n hx)
 .obtain⟨o',e1⟩:=I.base.there b o e hx
  exact there b o' (neC b o e hx) e1
 .obtain⟨m1,e1⟩:=I.base.tbls b ps e
  obtain⟨m2,e2⟩:=tbls b _ e1
  exact#[m1++m2,by rw[e2,Array.append_assoc]]
 .obtain⟨m,hn,hl⟩:=I.loc
  refine#[m,ns m hn,fun i x v e1 e2 e3=>?_]
  obtain⟨u,r,l⟩:=hl i x v e1 e2 e3
  refine#[u,r,?_]
  rcases l with l|⟨k,c,e,z⟩
  .exact .inl l
  .exact .inr #[k,c,e,cellK x c e _ z]
 .obtain⟨v,z⟩:=I.cell x c e
  exact#[v,cellK x c e v z]
 .obtain⟨m,⟨o,_,_,ho,_⟩,_⟩:=I.loc
  exact free _ o (fun z=>(hch _ z).2.1 rfl) ho I.free
 .obtain⟨v,o,ho,hd⟩:=I.cell x c e
  exact free c o (fun z=>(hch c z).2.2.1 x c e rfl) ho (I.freeC x c e)
 .obtain⟨e,n,ne,nf,d⟩:=I.pin p hp
  have nch:p.1∉ch:=fun z=>(hch p.1 z).2.2.2 p hp rfl
  exact#[keep p.1 p.2 ne nf nch e n,free p.1 p.2 nch e n,ne,nf,d]
theorem Inv.un {t':Nat}(I:Inv X pins σ H s) (u:Un X.fs [] H H' s.heap h') (hok:HOk X.prog X.w H' h'):Inv X pins σ H' { s with heap:=h',toks:=t' }:=by
 obtain⟨m,⟨o,es,ep,ho,r⟩,_⟩:=id I.loc
 obtain⟨sl,hL⟩:=u.any ho I.free (by simp)
 exact I.step (g':=s.gens) (d':=s.drawn) (ch:=[]) (fun _ z=>nomatch z) (fun b o _ hb _ e n=>u.keep b o e n hb (by simp)) (fun b o _ hb _ e n=>u.slot b o e n hb (by simp)) (fun b o _ e n=>u.free b o e n (by simp)) (fun b o _ e=>u.there b o e (by simp)) u.tups u.frzs u.tbls (fun m' hm=>by
  obtain⟨o',es',ep',ho',r'⟩:=hm
  rw[ho] at ho';cases ho'
  exact#[_,es',ep',hL,r']) hok I.bare
theorem Inv.call {g':Array GenState}{t':Nat}{d':Drawn}{ch:List Addr}(I:Inv X pins σ H s) (u:Un (frs X.stack) ch H H' s.heap h') (hok:HOk X.prog X.w H' h') (hg:AllBare g')
 (hch:∀b∈ch,(b∈X.ex\/X.s₀.heap.objs.size<=b)/\b≠X.env.locals/\(∀x c,X.env.cells.lookup x=some c->c≠b)/\∀p∈X.pn++pins,p.1≠b) :
 Inv X pins σ H' { s with heap:=h',gens:=g',drawn:=d',toks:=t' }:=by
 obtain⟨m,⟨o,es,ep,ho,r⟩,_⟩:=id I.loc
 obtain⟨sl,hL⟩:=u.any ho I.free fun z=>(hch _ z).2.1 rfl
 exact I.step (ch:=ch) hch (fun b o hL hb hc e n=>u.keep b o e n (fun z=>(qAk.mp (I.stkSub b z)).elim hL hb) hc) (fun b o _ _ hc e n=>u.any e n hc) (fun b o hc e n=>u.free b o e n hc) (fun b o hc e=>u.there b o e hc) u.tups u.frzs u.tbls (fun m' hm=>by
  obtain⟨o',es',ep',ho',r'⟩:=hm
  rw[ho] at ho';cases ho'
  exact#[_,es',ep',hL,r']) hok hg
theorem Inv.turned {t':Nat}{it:Addr}(I:Inv X pins σ H s) (k:∀b o,b≠it->s.heap.get? b=some o->h'.get? b=some o) (hn:H it=none) (hL:it≠X.env.locals)
 (h1:it∈X.ex\/X.s₀.heap.objs.size<=it) (h2:∀x c,X.env.cells.lookup x=some c->c≠it) (h3:∀p∈X.pn++pins,p.1≠it):Inv X pins σ H { s with heap:=h',toks:=t' }:=by
 have nit:∀b u,H b=some u->b≠it:=fun b u e z=>by rw[z,hn] at e;cases e
 refine I.step (g':=s.gens) (d':=s.drawn) (ch:=[it]) (fun b hb=>?_) (fun b o _ _ hc e _=>k b o (fun z=>hc (by simp[z])) e) (fun b o _ _ hc e _=>#[o.slots,k b o (fun z=>hc (by simp[z])) e]) (fun _ _ _ _ n=>n)
  (fun b o hc e=>#[o,k b o (fun z=>hc (by simp[z])) e]) (fun _ _ e=>e) (fun _ _ _ e=>e) (fun b ps e=>#[(List.toArray []),by rw[e];simp]) (fun m hm=>?_) (fun b u e=>?_) I.bare
 .have e:b=it:=by simpa using hb
  subst e
  exact#[h1,hL,h2,h3]
 .obtain⟨o,es,ep,ho,r⟩:=hm
  exact#[o,es,ep,k _ o (Ne.symm hL) ho,r]
 .refine(I.hok b u e).stay (fun c v hc q=>k c v ?_ q) (fun _ q=>q) fun _ _ q=>q
  rcases hc with z|z
  .rw[z];exact nit b u e
  .exact nit c _ z
theorem Inv.tok (I:Inv X pins σ H s)(t:Nat):Inv X pins σ H { s with toks:=t }:=I.un (h':=s.heap) (t':=t) Un.refl I.hok
theorem Inv.kept {t':Nat}(I:Inv X pins σ H s) (k:∀b u,s.heap.get? b=some u->h'.get? b=some u):Inv X pins σ H { s with heap:=h',toks:=t' }:=I.un (Un.kept k) (I.hok.kept k)
theorem Inv.laid {a:Addr}{o:HO}{t':Nat}(I:Inv X pins σ H s) (k:∀b u,s.heap.get? b=some u->h'.get? b=some u) (hp:s.heap.objs.size<=a) (new:Ca X.prog X.w (upd H a o) h' a o) :
 Inv X pins σ (upd H a o) { s with heap:=h',toks:=t' }:=I.un (Un.laid k hp (I.hok.fresh hp)) (I.hok.laid k hp new)
theorem Inv.write {x e:Addr}{o:HO}{t':Nat}(I:Inv X pins σ H s) (mu:Mut (H x)) (he:e=x\/H e=some (.own x)) (k:∀b u,b≠e->s.heap.get? b=some u->h'.get? b=some u) (heo:∃u,h'.get? e=some u)
 (new:Ca X.prog X.w (upd H x o) h' x o):Inv X pins σ (upd H x o) { s with heap:=h',toks:=t' }:=I.un (Un.write mu he k heo) (I.hok.write mu he k heo new)
theorem Inv.pins_of {pins':List (Addr×Obj)}(I:Inv X pins σ H s) (h:∀p∈pins',s.heap.get? p.1=some p.2/\H p.1=none/\p.1≠X.env.locals/\p.1∉X.fs/\∀v,p.2.data≠.cell v):Inv X pins' σ H s :=
 #[I.ok,I.os,I.bare,I.base,I.loc,I.cell,I.free,I.freeC,fun p hp=>(qAu.mp hp).elim (fun z=>I.pin p (qAX _ z)) (h p),I.hok,I.len]
theorem Kl {N:List Str}(hN:N.Nodup){i j:Nat}{x:Str}(a:N[i]? = some x) (b:N[j]? = some x):i=j:=by
 obtain⟨h1,e1⟩:=qAf.mp a
 obtain⟨h2,e2⟩:=qAf.mp b
 exact(List.getElem_inj hN).mp (e1.trans e2.symm)
theorem Ip {M:Model}{A:Around}{E:Value->Shared->Prop}{i:Nat}{x:Str}{v:V}{u:Value}{Q:Unit->Shared->Prop}(I:Inv X pins σ H s) (hN:X.N.Nodup) (hi:X.N[i]? = some x) (hx:Loc X.env.scope x) (r:BF v u)
 (h:∀s',Inv X pins (σ.set i (some v)) H s'->(∃a,Heap.SameBut a s.heap s'.heap/\(a=X.env.locals\/X.env.cells.lookup x=some a))->Q Unit.unit s') (hf:X.fn x=true\/X.env.scope.names.lookup x=some .local:=by first|exact .inl rfl|exact .inr rfl|assumption):wpAny M A (storeName X.env x u) Q E s:=by
 obtain⟨m,hn,hl⟩:=id I.loc
 have hcls:(X.env.scope.kind == .class||(X.env.scope.kind == .module&&X.env.locals != X.env.globals))=false:=by rw[I.ok.kind];rfl
 have hiσ:i<σ.length:=by rw[I.len];exact(qAf.mp hi).1
 have cne:=I.cne
 have tracked:∀{a:Addr}{h':Heap},(∃o,s.heap.get? a=some o/\H a=none)->Heap.SameBut a s.heap h'->HOk X.prog X.w H h':=fun {a h'} ha hs b ob e=>by
  obtain⟨_,_,hfree⟩:=ha
  refine(I.hok b ob e).stay (fun c w' hc q=>(hs.2 c ?_).trans q) (fun _ q=>q) fun _ _ q=>q
  rintro rfl
  rcases hc with rfl|hc
  .rw[hfree] at e;cases e
  .rw[hfree] at hc;cases hc
 rcases hx with hk|hk
 .refine wpAny_storeName_local hk hn (fun h' hn' hs=>?_) hcls
  obtain⟨oL,_,_,hoL,_⟩:=id hn
  refine h _ #[I.ok,I.os,I.bare,#[fun b o e n hb hx=>?_,fun b o e n hb hx=>?_,I.base.free,fun b o e hx=>?_,I.base.tups,I.base.frzs,I.base.tbls],#[_,hn',fun j y v' e1 e2 e3=>?_],fun y c e=>?_,I.free,I.freeC,fun p hp=>?_,tracked #[oL,hoL,I.free] hs,by simpa using I.len] #[_,hs,.inl rfl]
  .exact(hs.2 b (qAF (qAq (qAi e) I.ok.above))).trans (I.base.keep b o e n hb hx)
  .obtain⟨sl,e1⟩:=I.base.slot b o e n hb hx
   exact#[sl,(hs.2 b (qAF (qAq (qAi e) I.ok.above))).trans e1]
  .obtain⟨o',e1⟩:=I.base.there b o e hx
   exact#[o',(hs.2 b (qAF (qAq (qAi e) I.ok.above))).trans e1]
  .by_cases hj:j=i
   .subst hj
    rw[hi] at e1;cases e1
    rw[qBa hiσ] at e2
    cases e2
    exact#[u,r,.inl #[hk,by simp]]
   .rw[qBp (Ne.symm hj)] at e2
    obtain⟨u',r',q⟩:=hl j y v' e1 e2 e3
    refine#[u',r',?_]
    rcases q with⟨k,e⟩|⟨k,c,e,z⟩
    .refine .inl #[k,?_]
     have:y≠x:=fun e=>hj (Kl hN e1 (e ▸ hi))
     simp[this,e]
    .exact .inr #[k,c,e,z.sameBut hs (cne y c e)]
  .obtain⟨w',z⟩:=I.cell y c e
   exact#[w',z.sameBut hs (cne y c e)]
  .obtain⟨e,n,ne,nf,d⟩:=I.pin p hp
   exact#[(hs.2 p.1 ne).trans e,n,ne,nf,d]
 .have hfn:X.fn x=true:=by
   rcases hf with z|z
   .exact z
   .rw[z] at hk;cases hk
  obtain⟨c,hc⟩:=I.ok.has x (.inl hk)
  obtain⟨w',z⟩:=I.cell x c hc
  refine wpAny_storeName_cell I.ok.kind hk hc z (fun h' hc' hs=>?_)
  obtain⟨oc,hoc,hocd⟩:=id z
  refine h { s with heap:=h' } #[I.ok,I.os,I.bare,#[fun b o e n hb hx=>?_,fun b o e n hb hx=>?_,I.base.free,fun b o e hx=>?_,I.base.tups,I.base.frzs,I.base.tbls],#[m,hn.sameBut hs (Ne.symm (cne x c hc)),fun j y v' e1 e2 e3=>?_],fun y c' e=>?_,I.free,I.freeC,fun p hp=>?_,tracked #[oc,hoc,I.freeC x c hc] hs,by simpa using I.len] #[c,hs,.inr hc]
  .exact(hs.2 b (qAF (qAq (qAi e) (I.ok.cab x c hfn hc)))).trans (I.base.keep b o e n hb hx)
  .obtain⟨sl,e1⟩:=I.base.slot b o e n hb hx
   exact#[sl,(hs.2 b (qAF (qAq (qAi e) (I.ok.cab x c hfn hc)))).trans e1]
  .obtain⟨o',e1⟩:=I.base.there b o e hx
   exact#[o',(hs.2 b (qAF (qAq (qAi e) (I.ok.cab x c hfn hc)))).trans e1]
  .by_cases hj:j=i
   .subst hj
    rw[hi] at e1;cases e1
    rw[qBa hiσ] at e2
    cases e2
    exact#[u,r,.inr #[.inl hk,c,hc,hc']]
   .rw[qBp (Ne.symm hj)] at e2
    obtain⟨u',r',q⟩:=hl j y v' e1 e2 e3
    refine#[u',r',?_]
    rcases q with q|⟨k,c',e,z'⟩
    .exact .inl q
    .refine .inr #[k,c',e,z'.sameBut hs ?_]
     rintro rfl
     exact hj (Kl hN e1 (I.ok.inj _ _ _ e hc ▸ hi))
  .by_cases hcc:c'=c
   .subst hcc;exact#[_,hc']
   .obtain⟨w2,z2⟩:=I.cell y c' e
    exact#[w2,z2.sameBut hs hcc]
  .obtain⟨e,n,ne,nf,d⟩:=I.pin p hp
   refine#[(hs.2 p.1 ?_).trans e,n,ne,nf,d]
   intro q
   rw[q,hoc] at e
   have q':oc=p.2:=qAj e
   exact d w' (by rw[<-q'];exact hocd)
theorem FU {M:Model}{A:Around}{E:Value->Shared->Prop}{i:Nat}{x:Str}{v:V}{u:Value}{Q:Unit->Shared->Prop}(I:Inv X pins σ H s) (hN:X.N.Nodup) (hi:X.N[i]? = some x) (hx:Loc X.env.scope x) (r:BF v u)
 (h:∀s',Inv X pins (σ.set i (some v)) H s'->Q Unit.unit s') (hf:X.fn x=true\/X.env.scope.names.lookup x=some .local:=by first|exact .inl rfl|exact .inr rfl|assumption):wpAny M A (storeName X.env x u) Q E s :=
 Ip I hN hi hx r (fun s' I' _=>h s' I') hf
theorem Inv.call' {s':Shared}{ch:List Addr}(I:Inv X pins σ H s) (ho:s'.os=s.os) (u:Un (frs X.stack) ch H H' s.heap s'.heap) (hok:HOk X.prog X.w H' s'.heap) (hg:AllBare s'.gens)
 (hch:∀b∈ch,(b∈X.ex\/X.s₀.heap.objs.size<=b)/\b≠X.env.locals/\(∀x c,X.env.cells.lookup x=some c->c≠b)/\∀p∈X.pn++pins,p.1≠b):Inv X pins σ H' s':=by
 obtain⟨h',g',d',t',o'⟩:=s'
 have e:o'=s.os:=ho
 subst e
 exact I.call (g':=g') (t':=t') (d':=d') u hok hg hch
end
abbrev XK:=Value->Option Addr->Hp->Prop
abbrev St:=List (Option V)
abbrev VK:=V->Hp->Prop
abbrev TE:=St->Hp->VK->Prop
abbrev TT:=St->Hp->(Bool->Hp->Prop)->Prop
abbrev TA:=St->Hp->(List V->Hp->Prop)->Prop
structure GB where
 nx:St->Hp->Prop
 rt:VK
 bk:St->Hp->Prop:=fun _ _=>False
 ct:St->Hp->Prop:=fun _ _=>False
abbrev TS:=GB->St->Hp->Prop
def EP (X:Cx)(pins:List (Addr×Obj))(σ:St)(Q:VK)(u:Value)(s':Shared):Prop:=∃v H',Inv X pins σ H' s'/\BF v u/\Q v H'
def TP (X:Cx)(pins:List (Addr×Obj))(σ:St)(Q:Bool->Hp->Prop)(b:Bool)(s':Shared):Prop:=∃H',Inv X pins σ H' s'/\Q b H'
def AP (X:Cx)(pins:List (Addr×Obj))(σ:St)(Q:List V->Hp->Prop)(us:List Value)(s':Shared):Prop:=∃vs H',Inv X pins σ H' s'/\Bt vs us/\Q vs H'
def SP (X:Cx)(pins:List (Addr×Obj))(D:GB)(f:Flow)(s':Shared):Prop :=
 match f with
 |.next=>∃σ' H',Inv X pins σ' H' s'/\D.nx σ' H'
 |.brk=>∃σ' H',Inv X pins σ' H' s'/\D.bk σ' H'
 |.cont=>∃σ' H',Inv X pins σ' H' s'/\D.ct σ' H'
 |.ret u=>∃v σ' H',Inv X pins σ' H' s'/\BF v u/\D.rt v H'
def PE (X:Cx)(e:Expr)(t:TE):Prop :=
 ∀(pins:List (Addr×Obj))(s:Shared)(σ:St)(H:Hp)(Q:VK),Inv X pins σ H s->t σ H Q->wpAny (model X.prog X.w) X.A (eval e X.env) (EP X pins σ Q) X.xe s
def PT (X:Cx)(e:Expr)(t:TT):Prop :=
 ∀(pins:List (Addr×Obj))(s:Shared)(σ:St)(H:Hp)(Q:Bool->Hp->Prop),Inv X pins σ H s->t σ H Q->wpAny (model X.prog X.w) X.A (isTrue e X.env (eval e X.env)) (TP X pins σ Q) X.xe s
def PW (X:Cx)(e:Expr)(t:TT):Prop :=
 ∀(whole:Sem Value)(pins:List (Addr×Obj))(s:Shared)(σ:St)(H:Hp)(Q:Bool->Hp->Prop),Inv X pins σ H s->t σ H Q->wpAny (model X.prog X.w) X.A (isTrue e X.env whole) (TP X pins σ Q) X.xe s
def PA (X:Cx)(es:List Expr)(t:TA):Prop :=
 ∀(pos:Pos)(pins:List (Addr×Obj))(s:Shared)(σ:St)(H:Hp)(Q:List V->Hp->Prop),Inv X pins σ H s->t σ H Q->wpAny (model X.prog X.w) X.A (spliced (backTo pos (starEach es X.env))) (AP X pins σ Q) X.xe s
def PS (X:Cx)(st:Stmt)(t:TS):Prop :=
 ∀(pins:List (Addr×Obj))(s:Shared)(σ:St)(H:Hp)(D:GB),Inv X pins σ H s->t D σ H->wpAny (model X.prog X.w) X.A (exec st X.env) (SP X pins D) X.xe s
def PSs (X:Cx)(st:List Stmt)(t:TS):Prop :=
 ∀(pins:List (Addr×Obj))(s:Shared)(σ:St)(H:Hp)(D:GB),Inv X pins σ H s->t D σ H->wpAny (model X.prog X.w) X.A (execs st X.env) (SP X pins D) X.xe s
theorem thn {α:Type}{t:Sem α}{Q Q':α->Shared->Prop}{M:Model}{A:Around}{E:Value->Shared->Prop}{s:Shared}(h:wpAny M A t Q E s) (hQ:∀a s,Q a s->Q' a s):wpAny M A t Q' E s:=wpAny_mono h hQ fun _ _ x=>x
section
variable {X:Cx}
def Dd (i:Nat):TE:=fun σ H Q=>∃v,σ[i]? = some (some v)/\Q v H
def tC (v:V):TE:=fun _ H Q=>Q v H
theorem Q9 {i:Nat}{x:Str}{pos:Pos}(hN:X.N[i]? = some x) (hv:Vis X.env.scope x) (hd:(x==("__debug__":Str))=false:=by decide) (hcd:(x==("__classdict__":Str))=false:=by decide):PE X (.Name x pos) (Dd i):=by
 intro pins s σ H Q I h
 obtain⟨v,e,h⟩:=h
 obtain⟨m,hn,hl⟩:=I.loc
 obtain⟨u,r,l⟩:=hl i x v hN e hv
 have fin:EP X pins σ Q u s:=#[v,H,I,r,h]
 rcases l with⟨hk,hm⟩|⟨hk,c,hc,hcell⟩
 .exact wpAny_Name (wpAny_loadName_local I.ok.kind hk hn hm fin) hd
 .rcases hk with hk|hk
  .exact wpAny_Name (wpAny_loadName_cell I.ok.kind hk hc hcell fin) hd
  .exact wpAny_Name (wpAny_loadName_free I.ok.kind hk hc hcell fin hcd) hd
theorem DF {i j pos}:PE X (.Constant (.int i) j pos) (tC (.int i)):=fun _ _ _ H _ I h=>wpAny_Constant_int #[.int i,H,I.tok _,#[_,rfl],h]
theorem NB {b j pos}:PE X (.Constant (.bool b) j pos) (tC (.bl b)):=fun _ _ _ H _ I h=>Constant_bool #[.bl b,H,I,rfl,h]
theorem Sk {x j pos}:PE X (.Constant (.str x) j pos) (tC (.str x)):=fun _ _ _ H _ I h=>Calls.Constant_str #[.str x,H,I.tok _,#[_,rfl],h]
def Gl (X:Cx)(x:Str):Prop:=X.env.kindOf x=some .globalImplicit
theorem Hs {E:Value->Shared->Prop}{pins:List (Addr×Obj)}{s:Shared}{σ:St}{H:Hp}{x:Str}{u:Value}{pos:Pos}{Q:Value->Shared->Prop}(I:Inv X pins σ H s) (hg:Gl X x) (hm:X.mg x=some u) (h:Q u s)
 (hd:(x==("__debug__":Str))=false:=by decide):wpAny (model X.prog X.w) X.A (eval (.Name x pos) X.env) Q E s :=
 Calls.Name_function_global I.ok.kind hg (Calls.loadGlobal_global (by rw[I.ok.glob];exact I.mod.glob.keeps I.bk) hm h) hd
theorem FG {E:Value->Shared->Prop}{pins:List (Addr×Obj)}{s:Shared}{σ:St}{H:Hp}{x:Str}{u:Value}{pos:Pos}{Q:Value->Shared->Prop}(I:Inv X pins σ H s) (hg:Gl X x) (hm:X.mg x=none) (hv:bootBuiltins x=some u) (h:Q u s)
 (hn:x≠"__name__":=by decide) (hd:(x==("__debug__":Str))=false:=by decide):wpAny (model X.prog X.w) X.A (eval (.Name x pos) X.env) Q E s:=by
 obtain⟨mb,h1,h2⟩:=I.mod.blt
 exact Calls.Name_function_global I.ok.kind hg (Calls.loadGlobal_builtin (by rw[I.ok.glob];exact I.mod.glob.keeps I.bk) hm (by rw[I.ok.blt];exact h1.keeps I.bk) ((h2 x hn).trans hv) h) hd
theorem Qy {x:Str}{v:V}{u:Value}{pos:Pos}(hg:Gl X x) (hm:X.mg x=some u) (r:BF v u) (hd:(x==("__debug__":Str))=false:=by decide):PE X (.Name x pos) (tC v) :=
 fun _ _ _ H _ I h=>Hs I hg hm #[v,H,I,r,h] hd
theorem PD {x:Str}{v:V}{u:Value}{pos:Pos}(hg:Gl X x) (hm:X.mg x=none) (hv:bootBuiltins x=some u) (r:BF v u) (hn:x≠"__name__":=by decide) (hd:(x==("__debug__":Str))=false:=by decide):PE X (.Name x pos) (tC v) :=
 fun _ _ _ H _ I h=>FG I hg hm hv #[v,H,I,r,h] hn hd
variable {a b:Expr}{ta tb:TE}{pos:Pos}
def tB (t:TE):TT:=fun σ H Q=>t σ H fun x H1=>∃c,x=.bl c/\Q c H1
theorem OL {e:Expr}{t:TE}(h:PE X e t) (he:∀whole,isTrue e X.env whole=(do let v <-whole;standAt e.pos;holding [v] (truthy v)):=by intro _;rfl):PT X e (tB t):=by
 intro pins s σ H Q I hw
 refine isTrue_plain (thn (h pins s σ H _ I hw) fun v s1 #[x,H1,I1,r1,q1]=>?_) (he _)
 obtain⟨d,rfl,q⟩:=q1
 cases r1
 exact wpAny_truthy_bool #[H1,I1,q]
variable {tA tB':TT}{rest:List Expr}
def Va (t u:TT):TT:=fun σ H Q=>t σ H fun c H1=>if c=true then u σ H1 Q else Q false H1
def tOr (t u:TT):TT:=fun σ H Q=>t σ H fun c H1=>if c=true then Q true H1 else u σ H1 Q
def TM (t:TT):TT:=fun σ H Q=>t σ H fun c H1=>Q (!c) H1
theorem PF (ha:PT X a tA):PW X (.BoolOp .And [a] pos) tA:=by
 intro wh pins s σ H Q I h
 refine isTrue_and (thn (ha pins s σ H Q I h) fun c s1 e=>?_)
 cases c with
 |true=>exact isTrue_and_nil e
 |false=>exact e
theorem OS (ha:PT X a tA):PW X (.BoolOp .Or [a] pos) tA:=by
 intro wh pins s σ H Q I h
 refine isTrue_or (thn (ha pins s σ H Q I h) fun c s1 e=>?_)
 cases c with
 |false=>exact isTrue_or_nil e
 |true=>exact e
theorem R7 (ha:PT X a tA)(hb:PW X (.BoolOp .And (b::rest) pos) tB'):PW X (.BoolOp .And (a::b::rest) pos) (Va tA tB'):=by
 intro wh pins s σ H Q I h
 refine isTrue_and (thn (ha pins s σ H _ I h) fun c s1 hh=>?_)
 obtain⟨H1,I1,q1⟩:=hh
 cases c with
 |true=>exact hb wh pins s1 σ H1 Q I1 q1
 |false=>exact#[H1,I1,q1]
theorem Ss (ha:PT X a tA)(hb:PW X (.BoolOp .Or (b::rest) pos) tB'):PW X (.BoolOp .Or (a::b::rest) pos) (tOr tA tB'):=by
 intro wh pins s σ H Q I h
 refine isTrue_or (thn (ha pins s σ H _ I h) fun c s1 hh=>?_)
 obtain⟨H1,I1,q1⟩:=hh
 cases c with
 |true=>exact#[H1,I1,q1]
 |false=>exact hb wh pins s1 σ H1 Q I1 q1
theorem OZ (ha:PT X a tA):PT X (.UnaryOp .Not a pos) (TM tA):=by
 intro pins s σ H Q I h
 exact isTrue_not (ha pins s σ H (fun c H1=>Q (!c) H1) I h)
def Ur (ta tb:TE):TE:=fun σ H Q=>ta σ H fun x H1=>∃c,x=.bl c/\if c=true then tb σ H1 Q else Q (.bl false) H1
def Tt (ta:TE):TE:=fun σ H Q=>ta σ H fun x H1=>∃c,x=.bl c/\Q (.bl (!c)) H1
theorem Rq {op}{t:TE}(h:PE X a t):PE X (.BoolOp op [a] pos) t:=fun pins s σ H Q I hw=>BoolOp_one (h pins s σ H Q I hw)
theorem SI (ha:PE X a ta)(hb:PE X (.BoolOp .And (b::rest) pos) tb):PE X (.BoolOp .And (a::b::rest) pos) (Ur ta tb):=by
 intro pins s σ H Q I h
 refine BoolOp_and (thn (ha pins s σ H _ I h) fun v s1 hh=>?_)
 obtain⟨x,H1,I1,r1,q1⟩:=hh
 obtain⟨c,rfl,q1⟩:=q1
 cases r1
 refine wpAny_truthy_bool ?_
 cases c with
 |true=>exact hb pins s1 σ H1 Q I1 q1
 |false=>exact#[.bl false,H1,I1,rfl,q1]
theorem Rf (ha:PE X a ta):PE X (.UnaryOp .Not a pos) (Tt ta):=by
 intro pins s σ H Q I h
 refine UnaryOp_ (thn (ha pins s σ H _ I h) fun v s1 hh=>?_)
 obtain⟨x,H1,I1,r1,q1⟩:=hh
 obtain⟨c,rfl,q1⟩:=q1
 cases r1
 exact not_of (wpAny_truthy_bool #[.bl (!c),H1,I1,rfl,q1])
end
def SqL (K:W.Frag)(H:Hp)(a:Addr)(xs:List V):Prop :=
 Rd H a (.lst xs) \/
  ∃(o:Obj)(its:Array Value)(n:Nat),K.lookup a=some o/\o.cls=.type "list"/\o.dict=none/\o.data=.seq its n/\its.size<=sizeLine/\Bt xs its.toList
def SqT (K:W.Frag)(H:Hp)(a:Addr)(xs:List V):Prop :=
 Rd H a (.tup xs) \/
  ∃(o:Obj)(its:Array Value)(n:Nat),K.lookup a=some o/\o.cls=.type "tuple"/\o.data=.seq its n/\its.size<=sizeLine/\Bt xs its.toList
def U2:Value->Option V
 |.none=>some .non
 |.bool b=>some (.bl b)
 |.int i _=>some (.int i)
 |.str x _=>some (.str x)
 |.bytes b _=>some (.byt b)
 |.float b _=>some (.flt b)
 |.ref a=>some (.ref a)
 |.type n=>some (.ty n)
 |_=>none
theorem BF.abs {x:V}{u:Value}(r:BF x u):U2 u=some x:=by
 cases x with
 |non=>cases r;rfl
 |bl _=>cases r;rfl
 |int _=>obtain⟨t,rfl⟩:=r;rfl
 |str _=>obtain⟨t,rfl⟩:=r;rfl
 |byt _=>obtain⟨t,rfl⟩:=r;rfl
 |flt _=>obtain⟨t,rfl⟩:=r;rfl
 |ref _=>cases r;rfl
 |ty _=>cases r;rfl
theorem BF.inj {x y:V}{u:Value}(r:BF x u) (q:BF y u):x=y:=qAj (r.abs.symm.trans q.abs)
theorem Bt.inj:∀{xs ys:List V}{us:List Value},Bt xs us->Bt ys us->xs=ys
 |_,_,_,.nil,.nil=>rfl
 |_,_,_,.cons r t,.cons r' t'=>by rw[r.inj r',Bt.inj t t']
section
variable {X:Cx}{pins:List (Addr×Obj)}{σ:St}{H:Hp}{s:Shared}{a:Addr}{xs ys:List V}
theorem SqL.of {K:W.Frag}(h:H a=some (.lst xs)):SqL K H a xs:=.inl (.inl h)
theorem SqT.of {K:W.Frag}(h:H a=some (.tup xs)):SqT K H a xs:=.inl (.inl h)
theorem Inv.list (I:Inv X pins σ H s)(h:SqL X.K H a xs):∃its:List Value,Bt xs its/\PlainL s.heap a its.toArray/\xs.length<=sizeLine:=by
 rcases h with h|⟨o,its,n,hk,hc,hd,hs,hz,r⟩
 .obtain⟨z,its,n,r,e⟩:=h.ok I.hok
  exact#[its,r,#[_,n,e,rfl,rfl,rfl],z]
 .refine#[its.toList,r,#[o,n,I.kIn a o hk,hc,hd,by simpa using hs],?_]
  have e:=r.length
  simp only[Array.length_toList] at e
  omega
theorem Inv.tuple (I:Inv X pins σ H s)(h:SqT X.K H a xs):∃its:List Value,Bt xs its/\IsTup s.heap a its.toArray/\xs.length<=sizeLine:=by
 rcases h with h|⟨o,its,n,hk,hc,hs,hz,r⟩
 .obtain⟨z,its,r,p⟩:=h.ok I.hok
  exact#[its,r,p,z]
 .refine#[its.toList,r,#[o,I.kIn a o hk,hc,n,by simpa using hs],?_]
  have e:=r.length
  simp only[Array.length_toList] at e
  omega
theorem Inv.list_inj (I:Inv X pins σ H s)(h:SqL X.K H a xs)(h':SqL X.K H a ys):xs=ys:=by
 obtain⟨its,r,⟨o,n,e,_,_,d⟩,_⟩:=I.list h
 obtain⟨its',r',⟨o',n',e',_,_,d'⟩,_⟩:=I.list h'
 rw[e] at e';cases e'
 rw[d] at d'
 injection d' with d1 _
 have:its=its':=by simpa using congrArg Array.toList d1
 subst this
 exact r.inj r'
theorem Inv.tuple_inj (I:Inv X pins σ H s)(h:SqT X.K H a xs)(h':SqT X.K H a ys):xs=ys:=by
 obtain⟨its,r,⟨o,e,_,n,d⟩,_⟩:=I.tuple h
 obtain⟨its',r',⟨o',e',_,n',d'⟩,_⟩:=I.tuple h'
 rw[e] at e';cases e'
 rw[d] at d'
 injection d' with d1 _
 have:its=its':=by simpa using congrArg Array.toList d1
 subst this
 exact r.inj r'
end
abbrev Cx.wish (X:Cx)(E:Value->Shared->Prop):Cx:={ X with xe:=E }
abbrev Cx.nox (X:Cx):Cx:=X.wish fun _ _=>False
theorem Cx.Ok.wish {X:Cx}(ok:X.Ok) (E:Value->Shared->Prop):(X.wish E).Ok :=
 #[ok.mod,ok.kind,ok.glob,ok.blt,ok.above,ok.inj,ok.has,ok.cab,ok.hd,ok.frames,ok.stk,ok.exf,ok.bs,ok.bsz,ok.noex,ok.exfs,ok.funs,ok.frf,ok.tb]
theorem Cx.Ok.unwish {X:Cx}{E:Value->Shared->Prop}(ok:(X.wish E).Ok):X.Ok :=
 #[ok.mod,ok.kind,ok.glob,ok.blt,ok.above,ok.inj,ok.has,ok.cab,ok.hd,ok.frames,ok.stk,ok.exf,ok.bs,ok.bsz,ok.noex,ok.exfs,ok.funs,ok.frf,ok.tb]
section
variable {X:Cx}{pins:List (Addr×Obj)}{σ:St}{H:Hp}{s:Shared}{E:Value->Shared->Prop}
theorem Inv.wish (I:Inv X pins σ H s)(E:Value->Shared->Prop):Inv (X.wish E) pins σ H s:=#[I.ok.wish E,I.os,I.bare,I.base,I.loc,I.cell,I.free,I.freeC,I.pin,I.hok,I.len]
theorem Inv.unwish (I:Inv (X.wish E) pins σ H s):Inv X pins σ H s:=#[I.ok.unwish,I.os,I.bare,I.base,I.loc,I.cell,I.free,I.freeC,I.pin,I.hok,I.len]
theorem SP.unwish {D:GB}{f:Flow}{s':Shared}(h:SP (X.wish E) pins D f s'):SP X pins D f s':=by
 cases f with
 |next=>obtain⟨σ',H',I,q⟩:=h;exact#[σ',H',I.unwish,q]
 |brk=>obtain⟨σ',H',I,q⟩:=h;exact#[σ',H',I.unwish,q]
 |cont=>obtain⟨σ',H',I,q⟩:=h;exact#[σ',H',I.unwish,q]
 |ret u=>obtain⟨v,σ',H',I,r,q⟩:=h;exact#[v,σ',H',I.unwish,r,q]
theorem PSs.nox {st:List Stmt}{t:TS}(h:PSs X.nox st t):PSs X st t:=fun pins s σ H D I hw =>
 wpAny_mono (h pins s σ H D (I.wish _) hw) (fun _ _ q=>q.unwish) fun _ _ z=>False.elim z
end
section
variable {X:Cx}{st:Stmt}{rest:List Stmt}{t u:TS}{e:Expr}{te:TE}{pos:Pos}
def Lj:TS:=fun D σ H=>D.nx σ H
def Nn (t u:TS):TS:=fun D σ H=>t { D with nx:=u D } σ H
theorem Fn:PSs X [] Lj:=fun _ _ σ H _ I h=>wpAny_execs_nil #[σ,H,I,h]
theorem Bw (h1:PS X st t)(h2:PSs X rest u):PSs X (st::rest) (Nn t u):=by
 intro pins s σ H D I h
 refine wpAny_execs_cons (thn (h1 pins s σ H { D with nx:=u D } I h) fun f s1 q=>?_)
 cases f with
 |next =>
  obtain⟨σ',H',I',q⟩:=q
  exact h2 pins s1 σ' H' D I' q
 |ret v=>exact q
 |brk=>exact q
 |cont=>exact q
theorem Qa (h1:PS X st t):PSs X [st] t:=by
 intro pins s σ H D I h
 refine wpAny_execs_cons (thn (h1 pins s σ H D I h) fun f s1 q=>?_)
 cases f with
 |next=>exact wpAny_execs_nil q
 |ret v=>exact q
 |brk=>exact q
 |cont=>exact q
theorem Inv.quiet {pins:List (Addr×Obj)}{σ:St}{H:Hp}{s:Shared}(I:Inv X pins σ H s):interactive X.env=false:=by simp[interactive,I.ok.kind]
def Jn (te:TE):TS:=fun D σ H=>te σ H fun _ H1=>D.nx σ H1
theorem Bg (he:PE X e te)(hs:swapsWith e none pos.line X.env=pure false:=by rfl):PS X (.Expr e pos) (Jn te):=by
 intro pins s σ H D I h
 exact wpAny_Expr_any (thn (he pins s σ H _ I h) fun v s1 #[x,H1,I1,r1,q1]=>#[σ,H1,I1,q1]) I.quiet hs
def SV (te:TE):TS:=fun D σ H=>te σ H D.rt
theorem IL (he:PE X e te):PS X (.Return (some e) pos) (SV te):=by
 intro pins s σ H D I h
 exact wpAny_Return_some (thn (he pins s σ H _ I h) fun v s1 #[x,H1,I1,r1,q1]=>#[x,σ,H1,I1,r1,q1])
def Td (c:TT)(t u:TS):TS:=fun D σ H=>c σ H fun b H1=>if b=true then t D σ H1 else u D σ H1
theorem QY {c:Expr}{a b:List Stmt}{tc:TT}(hc:PT X c tc) (ha:PSs X a t) (hb:PSs X b u):PS X (.If c a b pos) (Td tc t u):=by
 intro pins s σ H D I h
 refine wpAny_If (thn (hc pins s σ H _ I h) fun d s1 hh=>?_)
 obtain⟨H1,I1,q1⟩:=hh
 cases d with
 |true=>exact ha pins s1 σ H1 D I1 q1
 |false=>exact hb pins s1 σ H1 D I1 q1
def SO:TS:=fun _ _ _=>False
theorem Oi:PS X st SO:=fun _ _ _ _ _ _ h=>h.elim
end
abbrev TG:=V->St->Hp->(St->Hp->Prop)->Prop
abbrev TGs:=List V->St->Hp->(St->Hp->Prop)->Prop
def PG (X:Cx)(target:Expr)(t:TG):Prop :=
 ∀(pins:List (Addr×Obj))(s:Shared)(σ:St)(H:Hp)(v:V)(u:Value)(Q:St->Hp->Prop),Inv X pins σ H s->BF v u->t v σ H Q ->
  wpAny (model X.prog X.w) X.A (assign target X.env u) (fun _ s'=>∃σ' H',Inv X pins σ' H' s'/\Q σ' H') X.xe s
def PGs (X:Cx)(ts:List Expr)(t:TGs):Prop :=
 ∀(pins:List (Addr×Obj))(s:Shared)(σ:St)(H:Hp)(vs:List V)(us:List Value)(Q:St->Hp->Prop),Inv X pins σ H s->Bt vs us->t vs σ H Q ->
  wpAny (model X.prog X.w) X.A (assignInOrder ((assignEach ts X.env).map (·.2)) us) (fun _ s'=>∃σ' H',Inv X pins σ' H' s'/\Q σ' H') X.xe s
abbrev Uo:=V->V->V->Hp->(Hp->Prop)->Prop
def UP (X:Cx)(t:Uo):Prop :=
 ∀(pins:List (Addr×Obj))(s:Shared)(σ:St)(H:Hp)(o i v:V)(ov iv u:Value)(Q:Hp->Prop),Inv X pins σ H s->BF o ov->BF i iv->BF v u->t o i v H Q ->
  wpAny (model X.prog X.w) X.A (setItem ov iv u) (fun _ s'=>∃H',Inv X pins σ H' s'/\Q H') X.xe s
abbrev TIp:=V->V->Hp->VK->Prop
def PIp (X:Cx)(op:Operator)(t:TIp):Prop :=
 ∀(pins:List (Addr×Obj))(s:Shared)(σ:St)(H:Hp)(x y:V)(v u:Value)(Q:VK),Inv X pins σ H s->BF x v->BF y u->t x y H Q ->
  wpAny (model X.prog X.w) X.A (inplaceOp op v u) (EP X pins σ Q) X.xe s
section
variable {X:Cx}{pos:Pos}
def CC (i:Nat):TG:=fun v σ H Q=>Q (σ.set i (some v)) H
theorem AH {i:Nat}{x:Str}(hN:X.N.Nodup) (hi:X.N[i]? = some x) (hx:Loc X.env.scope x) (hf:X.fn x=true\/X.env.scope.names.lookup x=some .local:=by first|exact .inl rfl|exact .inr rfl|assumption):PG X (.Name x pos) (CC i):=by
 intro pins s σ H v u Q I r h
 exact wpAny_assign_Name (FU I hN hi hx r (fun s' I'=>#[_,H,I',h]) hf)
def SX:TGs:=fun vs σ H Q=>vs=[]/\Q σ H
def Jj (t:TG)(u:TGs):TGs:=fun vs σ H Q=>∃v r,vs=v::r/\t v σ H fun σ' H'=>u r σ' H' Q
theorem Mw:PGs X [] SX:=by
 intro pins s σ H vs us Q I r h
 obtain⟨e,h⟩:=h
 subst e
 cases r
 exact assignInOrder_nil #[σ,H,I,h]
theorem FV {e:Expr}{es:List Expr}{t:TG}{u:TGs}(h1:PG X e t) (h2:PGs X es u)
 (hs:(assignEach (e::es) X.env).map (·.2)=assign e X.env::(assignEach es X.env).map (·.2):=by rfl):PGs X (e::es) (Jj t u):=by
 intro pins s σ H vs us Q I r h
 obtain⟨v,vr,e1,h⟩:=h
 subst e1
 cases r with
 |cons r rr =>
  rw[hs]
  refine assignInOrder_cons (thn (h1 pins s σ H _ _ _ I r h) fun _ s1 hh=>?_)
  obtain⟨σ1,H1,I1,q1⟩:=hh
  exact h2 pins s1 σ1 H1 _ _ Q I1 rr q1
def S4 (K:W.Frag)(n:Nat)(t:TGs):TG:=fun v σ H Q=>∃a xs,v=.ref a/\SqT K H a xs/\xs.length=n/\t xs σ H Q
theorem Pj {es:List Expr}{k:Nat}{t:TGs}{n:Nat}(hc:X.calm=true) (h:PGs X es t)
 (hn:(assignEach es X.env).length=n:=by rfl) (hst:(assignEach es X.env).findIdx? (·.1)=none:=by rfl):PG X (.Tuple es k pos) (S4 X.K n t):=by
 intro pins s σ H v u Q I r hw
 obtain⟨a,xs,e1,hq,hl,hw⟩:=hw
 subst e1
 cases r
 obtain⟨its,rv,ht,hz⟩:=I.tuple hq
 refine assign_Tuple_tuple (I.ok.hd hc) ht (by simp[hn,<-hl,rv.length]) hst fun h' hx=>?_
 have I1:Inv X pins σ H { s with heap:=h' }:=I.kept (t':=s.toks) fun b o e=>hx b o (qAF (qAi e)) e
 exact h pins _ σ H xs _ Q I1 (by simpa using rv) hw
def UX (to ti:TE)(t:Uo):TG:=fun v σ H Q=>to σ H fun o H1=>ti σ H1 fun i H2=>t o i v H2 fun H3=>Q σ H3
theorem OM {o i:Expr}{to ti:TE}{t:Uo}(ho:PE X o to) (hi:PE X i ti) (hs:UP X t)
 (ha:∀v,assign (.Subscript o i pos) X.env v=(do
  let ov <-holding [v] (eval o X.env)
  let iv <-holding [v,ov] (eval i X.env)
  standAt pos
  holding [v,ov,iv] (setItem ov iv v)
  release [v,ov,iv] []):=by intro _;rfl):PG X (.Subscript o i pos) (UX to ti t):=by
 intro pins s σ H v u Q I r h
 rw[ha]
 refine wpAny_bind (wpAny_holding (thn (ho pins s σ H _ I h) fun ov s1 hh=>?_))
 obtain⟨x,H1,I1,r1,q1⟩:=hh
 refine wpAny_bind (wpAny_holding (thn (hi pins s1 σ H1 _ I1 q1) fun iv s2 hh=>?_))
 obtain⟨y,H2,I2,r2,q2⟩:=hh
 refine wpAny_bind (wpAny_standAt (wpAny_bind (wpAny_holding (thn (hs pins s2 σ H2 x y v ov iv u _ I2 r1 r2 r q2) fun _ s3 hh=>?_))))
 obtain⟨H3,I3,q3⟩:=hh
 exact wpAny_release #[σ,H3,I3,q3]
def Q1 (te:TE)(g:TG):TS:=fun D σ H=>te σ H fun x H1=>g x σ H1 D.nx
theorem Pk {tg e:Expr}{te:TE}{g:TG}(he:PE X e te) (hg:PG X tg g) (hs:swapsWithSole [tg] e pos.line X.env=pure false:=by rfl) (hw:swappedStores [tg] e X.env=pure none:=by rfl)
 (h1:(assignEach [tg] X.env).map (·.2)=[assign tg X.env]:=by rfl):PS X (.Assign [tg] e pos) (Q1 te g):=by
 intro pins s σ H D I h
 refine wpAny_Assign_stores (thn (he pins s σ H _ I h) fun v s1 #[x,H1,I1,r1,q1]=>?_) hs hw
 rw[h1]
 exact thn (hg pins s1 σ H1 x v _ I1 r1 q1) fun _ s2 q=>q
theorem MH {i:Nat}{x:Str}{e:Expr}{te:TE}{pos':Pos}(hN:X.N.Nodup) (hi:X.N[i]? = some x) (hx:Loc X.env.scope x) (he:PE X e te) (hs:swapsWith e (some (.Name x pos')) pos.line X.env=pure false:=by rfl) (hf:X.fn x=true\/X.env.scope.names.lookup x=some .local:=by first|exact .inl rfl|exact .inr rfl|assumption) :
 PS X (.Assign [.Name x pos'] e pos) (Q1 te (CC i)):=by
 intro pins s σ H D I h
 refine wpAny_Assign_Name (thn (he pins s σ H _ I h) fun v s1 #[y,H1,I1,r1,q1]=>?_) hs
 exact FU I1 hN hi hx r1 (fun s2 I2=>#[_,H1,I2,q1]) hf
def VM (i:Nat)(te:TE)(ti:TIp):TS:=fun D σ H=>∃x,σ[i]? = some (some x)/\te σ H fun y H1=>ti x y H1 fun z H2=>D.nx (σ.set i (some z)) H2
theorem R8 {i:Nat}{x:Str}{e:Expr}{te:TE}{op:Operator}{ti:TIp}{pos':Pos}(hN:X.N.Nodup) (hi:X.N[i]? = some x) (hx:Loc X.env.scope x) (he:PE X e te) (ho:PIp X op ti) (hf:X.fn x=true\/X.env.scope.names.lookup x=some .local:=by first|exact .inl rfl|exact .inr rfl|assumption) :
 PS X (.AugAssign (.Name x pos') op e pos) (VM i te ti):=by
 intro pins s σ H D I h
 obtain⟨v,e1,h⟩:=h
 obtain⟨m,hn,hl⟩:=I.loc
 have vis:Vis X.env.scope x:=by rcases hx with k|k;exact .inl k;exact .inr (.inl k)
 obtain⟨u,r,l⟩:=hl i x v hi e1 vis
 refine wpAny_AugAssign_Name ?_
 have go:wpAny (model X.prog X.w) X.A (eval e X.env) (fun w s₂=>wpAny (model X.prog X.w) X.A (inplaceOp op u w) (fun r s₃=>wpAny (model X.prog X.w) X.A (storeName X.env x r) (fun _=>SP X pins D .next) X.xe s₃) X.xe s₂) X.xe s:=by
  refine thn (he pins s σ H _ I h) fun w s1 hh=>?_
  obtain⟨y,H1,I1,r1,q1⟩:=hh
  refine thn (ho pins s1 σ H1 v y u w _ I1 r r1 q1) fun z s2 hh=>?_
  obtain⟨zv,H2,I2,r2,q2⟩:=hh
  exact FU I2 hN hi hx r2 (fun s3 I3=>#[_,H2,I3,q2]) hf
 rcases l with⟨hk,hm⟩|⟨hk,c,hc,hcell⟩
 .exact wpAny_loadName_local I.ok.kind hk hn hm go
 .rcases hk with hk|hk
  .exact wpAny_loadName_cell I.ok.kind hk hc hcell go
  .rcases hx with k|k
   .have:X.env.scope.names.lookup x=some .free:=hk
    rw[k] at this;cases this
   .have:X.env.scope.names.lookup x=some .free:=hk
    rw[k] at this;cases this
def ipI (f:Int->Int->Int):TIp:=fun x y H Q=>∃i j,x=.int i/\y=.int j/\Q (.int (f i j)) H
theorem SQ:PIp X .Add (ipI fun i j=>i+j):=by
 intro pins s σ H x y v u Q I r1 r2 h
 obtain⟨i,j,e1,e2,q⟩:=h
 subst e1;subst e2
 obtain⟨t,rfl⟩:=r1
 obtain⟨t',rfl⟩:=r2
 exact iadd_int #[.int _,H,I.tok _,#[_,rfl],q]
end
section
variable {X:Cx}{pos:Pos}
def Sl (c:TT)(tb:TS):TS:=fun D σ H=>∃W:Nat->St->Hp->Prop,(∃m,W m σ H)/\∀m σ H,W m σ H ->
 c σ H fun b H1=>if b=true then ∃N:St->Hp->Prop,(∀σ' H',N σ' H'->∃m',m'<m/\W m' σ' H')/\tb { D with nx:=N,ct:=N,bk:=D.nx } σ H1 else D.nx σ H1
theorem N2 {c:Expr}{body:List Stmt}{tc:TT}{tb:TS}(hp:PassesOwn (model X.prog X.w) X.A X.env X.xe) (hc:PT X c tc) (hb:PSs X body tb):PS X (.While c body [] pos) (Sl tc tb):=by
 intro pins s σ H D I h
 obtain⟨W,⟨m0,w0⟩,turn⟩:=h
 refine wpAny_While (codeAny_whileLoop (fun n s'=>∃σ' H',Inv X pins σ' H' s'/\W n σ' H') ?_ m0 #[σ,H,I,w0])
 rintro n s1 ⟨σ1,H1,I1,w1⟩
 refine wpAny_passesOwn hp (thn (hc pins s1 σ1 H1 _ I1 (turn n σ1 H1 w1)) fun b s2 hh=>?_)
 obtain⟨H2,I2,q2⟩:=hh
 cases b with
 |true =>
  obtain⟨N,hN,q2⟩:=q2
  rw[if_pos rfl]
  refine wpAny_passesOwn hp (thn (hb pins s2 σ1 H2 _ I2 q2) fun f s3 q3=>?_)
  cases f with
  |next =>
   obtain⟨σ3,H3,I3,n3⟩:=q3
   obtain⟨m',hm,w3⟩:=hN σ3 H3 n3
   exact#[m',hm,σ3,H3,I3,w3]
  |cont =>
   obtain⟨σ3,H3,I3,n3⟩:=q3
   obtain⟨m',hm,w3⟩:=hN σ3 H3 n3
   exact#[m',hm,σ3,H3,I3,w3]
  |brk=>exact q3
  |ret v=>exact q3
 |false =>
  rw[if_neg qAm]
  exact wpAny_execs_nil #[σ1,H2,I2,q2]
end
structure It where
 go:Nat->Hp->Prop
 yld:Nat->Hp->V->Hp->Prop
 stop:Nat->Hp->Prop
def Nm (X:Cx)(pins:List (Addr×Obj))(H:Hp)(b:Addr):Prop :=
 H b=none/\b≠X.env.locals/\b∉X.fs/\(b∈X.ex\/X.s₀.heap.objs.size<=b)/\(∀x c,X.env.cells.lookup x=some c->c≠b)/\∀p∈X.pn++pins,p.1≠b
theorem Inv.fpOk {X:Cx}{pins:List (Addr×Obj)}{σ:St}{H H':Hp}{s:Shared}{b:Addr}(I:Inv X pins σ H s) (hb:s.heap.objs.size<=b) (hn:H' b=none):Nm X pins H' b:=by
 refine#[hn,qBr (qAq I.lt hb),I.nofs hb,.inr (qAG I.sz hb),fun x c e z=>?_,fun p hp z=>?_]
 .obtain⟨v,q⟩:=I.cell x c e
  exact absurd (qAq q.lt (by rw[z];exact hb)) (qAW _)
 .exact absurd (qAq (qAi (I.pin p hp).1) (by rw[z];exact hb)) (qAW _)
structure Qe (P:Program)(w:World)(K:W.Frag)(tg:Expr)(J:It)(fp:List Addr)(it:Addr)(tn:Nat->Heap->Prop):Prop where
 mem:it∈fp
 obj:∀i h,tn i h->∀b∈fp,∃o,h.get? b=some o/\∀v,o.data≠.cell v
 keep:∀i h h',tn i h->(∀b∈fp,∀o,h.get? b=some o->h'.get? b=some o)->tn i h'
 item:∀(X:Cx),X.prog=P->X.w=w->X.K=K->X.calm=true->∀(i:Nat)(pins:List (Addr×Obj))(s:Shared)(σ:St)(H:Hp)(E:Value->Shared->Prop),Inv X pins σ H s->(∀b∈fp,Nm X pins H b)->tn i s.heap->J.go i H ->
  wpAny (model P w) X.A (pyNext (.ref it)) (fun r s1=>∃u,r=some u /\
   wpAny (model P w) X.A (letOwnedTupleGo tg (.ref it) u) (fun _ s2=>∃x H',Inv X pins σ H' s2/\BF x u/\J.yld i H x H'/\tn (i+1) s2.heap/\∀b∈fp,H' b=none) E s1) E s
 done:∀(X:Cx),X.prog=P->X.w=w->X.K=K->X.calm=true->∀(i:Nat)(pins:List (Addr×Obj))(s:Shared)(σ:St)(H:Hp)(E:Value->Shared->Prop),Inv X pins σ H s->(∀b∈fp,Nm X pins H b)->tn i s.heap->J.stop i H ->
  wpAny (model P w) X.A (pyNext (.ref it)) (fun r s1=>r=none/\Inv X pins σ H s1) E s
 self:∀(A:Around)(i:Nat)(s:Shared)(Q:Value->Shared->Prop)(E:Value->Shared->Prop),tn i s.heap->Q (.ref it) s->wpAny (model P w) A (pyIter (.ref it)) Q E s
abbrev TI:=St->Hp->(It->Hp->Prop)->Prop
def PIE (X:Cx)(pins:List (Addr×Obj))(σ:St)(tg:Expr)(R:It->Hp->Prop)(itv:Value)(s2:Shared):Prop :=
 ∃(it:Addr)(fp:List Addr)(tn:Nat->Heap->Prop)(J:It)(H':Hp),itv=.ref it/\Inv X pins σ H' s2/\Qe X.prog X.w X.K tg J fp it tn/\tn 0 s2.heap/\(∀b∈fp,Nm X pins H' b)/\R J H'
def PI (X:Cx)(tg iter:Expr)(wi:TI):Prop :=
 ∀(pins:List (Addr×Obj))(s:Shared)(σ:St)(H:Hp)(R:It->Hp->Prop),Inv X pins σ H s->wi σ H R ->
  wpAny (model X.prog X.w) X.A (eval iter X.env) (fun v s1=>wpAny (model X.prog X.w) X.A (pyIter v) (PIE X pins σ tg R) X.xe s1) X.xe s
theorem Qk {M:Model}{A:Around}{E:Value->Shared->Prop}{s:Shared}{tg:Expr}{it:Addr}{u:Value}{o:Obj}{n:String}{vs:Array Value}{Q:Unit->Shared->Prop}(ho:s.heap.get? it=some o) (hc:o.cls=.type n) (hd:o.data=.fields vs)
 (hn:["enumerate","zip","dict_itemiterator","dict_reverseitemiterator","odict_iterator","itertools.zip_longest","itertools.pairwise"].contains n=false) (hQ:Q Unit.unit s):wpAny M A (letOwnedTupleGo tg (.ref it) u) Q E s:=by
 unfold letOwnedTupleGo
 cases tg<;>first
  |exact wpAny_pure hQ
  |(cases u<;>first
   |exact wpAny_pure hQ
   |(refine wpAny_bind (wpAny_load ho ?_)
     rw[hc,hd]
     show wpAny M A (if (["enumerate","zip","dict_itemiterator","dict_reverseitemiterator","odict_iterator","itertools.zip_longest","itertools.pairwise"].contains n&&vs[0]? == some (rawInt _))=true then _ else _) Q E s
     rw[if_neg (by intro h;rw[hn,Bool.false_and] at h;cases h)]
     exact wpAny_pure hQ))
def Itl (K:W.Frag)(a:Addr):It :=
 #[fun i H=>∃xs x,SqL K H a xs/\xs[i]? = some x,fun i H x H'=>H'=H/\∀xs,SqL K H a xs->xs[i]? = some x,fun i H=>∃xs,SqL K H a xs/\xs.length<=i]
def Itt (K:W.Frag)(a:Addr):It :=
 #[fun i H=>∃xs x,SqT K H a xs/\xs[i]? = some x,fun i H x H'=>H'=H/\∀xs,SqT K H a xs->xs[i]? = some x,fun i H=>∃xs,SqT K H a xs/\xs.length<=i]
def Itr (lo:Int)(n:Nat):It:=#[fun i _=>i<n,fun i H x H'=>H'=H/\x=.int (lo+i),fun i _=>n<=i]
theorem Mb {P:Program}{w:World}{K:W.Frag}{tg:Expr}(a it:Addr):Qe P w K tg (Itl K a) [it] it (fun i h=>h.IsListIter it a i) where
 mem:=by simp
 obj:=fun i h st b hb=>by
  have e:b=it:=by simpa using hb
  subst e
  obtain⟨o,e,c,d⟩:=st
  exact#[o,e,fun v z=>by rw[d] at z;cases z]
 keep:=fun i h h' st k=>st.at fun o e=>k it (by simp) o e
 item:=by
  intro X hP hw hK hc i pins s σ H E I hf st hg
  subst hP hw hK
  obtain⟨xs,x,hq,hx⟩:=hg
  obtain⟨its,rv,p,hz⟩:=I.list hq
  obtain⟨u,hu,ru⟩:=rv.get hx
  obtain⟨f0,f1,f2,f3,f4,f5⟩:=hf it (by simp)
  refine wpAny_pyNext_list_item st p.isList (x:=u) (by simpa using hu) fun h' st' sb=>?_
  have I1:Inv X pins σ H { s with heap:=h' }:=I.turned (t':=s.toks) (fun b o hb e=>(sb.2 b hb).trans e) f0 f1 f3 f4 f5
  obtain⟨o,e,c,d⟩:=id st'
  exact#[u,rfl,Qk (s:={ s with heap:=h' }) e c d ∅ #[x,H,I1,ru,#[rfl,fun ys hy=>by rw[I.list_inj hy hq];exact hx],st',fun b hb=>(hf b hb).1]]
 done:=by
  intro X hP hw hK hc i pins s σ H E I hf st hg
  subst hP hw hK
  obtain⟨xs,hq,hx⟩:=hg
  obtain⟨its,rv,p,hz⟩:=I.list hq
  obtain⟨f0,f1,f2,f3,f4,f5⟩:=hf it (by simp)
  have hl:=rv.length
  exact wpAny_pyNext_list_end (I.ok.hd hc) st p.isList (by simp;omega) fun h' eb=>#[rfl,I.turned (t':=s.toks) (fun b o hb e=>eb b o hb e) f0 f1 f3 f4 f5]
 self:=fun _ _ _ _ _ st h=>wpAny_pyIter_listiter st h
theorem Lh {P:Program}{w:World}{K:W.Frag}{tg:Expr}(a it:Addr):Qe P w K tg (Itt K a) [it] it (fun i h=>h.IsTupleIter it a i) where
 mem:=by simp
 obj:=fun i h st b hb=>by
  have e:b=it:=by simpa using hb
  subst e
  obtain⟨o,e,c,d⟩:=st
  exact#[o,e,fun v z=>by rw[d] at z;cases z]
 keep:=fun i h h' st k=>st.at fun o e=>k it (by simp) o e
 item:=by
  intro X hP hw hK hc i pins s σ H E I hf st hg
  subst hP hw hK
  obtain⟨xs,x,hq,hx⟩:=hg
  obtain⟨its,rv,p,hz⟩:=I.tuple hq
  obtain⟨u,hu,ru⟩:=rv.get hx
  obtain⟨f0,f1,f2,f3,f4,f5⟩:=hf it (by simp)
  refine wpAny_pyNext_tuple_item st (show s.heap.IsTuple a its.toArray from p) (x:=u) (by simpa using hu) fun h' st' sb=>?_
  have I1:Inv X pins σ H { s with heap:=h' }:=I.turned (t':=s.toks) (fun b o hb e=>(sb.2 b hb).trans e) f0 f1 f3 f4 f5
  obtain⟨o,e,c,d⟩:=id st'
  exact#[u,rfl,Qk (s:={ s with heap:=h' }) e c d ∅ #[x,H,I1,ru,#[rfl,fun ys hy=>by rw[I.tuple_inj hy hq];exact hx],st',fun b hb=>(hf b hb).1]]
 done:=by
  intro X hP hw hK hc i pins s σ H E I hf st hg
  subst hP hw hK
  obtain⟨xs,hq,hx⟩:=hg
  obtain⟨its,rv,p,hz⟩:=I.tuple hq
  obtain⟨f0,f1,f2,f3,f4,f5⟩:=hf it (by simp)
  have hl:=rv.length
  exact wpAny_pyNext_tuple_end (I.ok.hd hc) st (show s.heap.IsTuple a its.toArray from p) (by simp;omega) fun h' eb=>#[rfl,I.turned (t':=s.toks) (fun b o hb e=>eb b o hb e) f0 f1 f3 f4 f5]
 self:=fun _ _ _ _ _ st h=>wpAny_pyIter_tupleiter st h
theorem K7 {P:Program}{w:World}{K:W.Frag}{tg:Expr}(it:Addr) (lo:Int) (n:Nat):Qe P w K tg (Itr lo n) [it] it (fun i h=>IsRangeIter h it (lo+(i:Nat)*1) ((n:Int)-(i:Nat)) 1) where
 mem:=by simp
 obj:=fun i h st b hb=>by
  have e:b=it:=by simpa using hb
  subst e
  exact#[_,st,fun v z=>by
   have z':Data.fields _=Data.cell v:=z
   cases z']
 keep:=fun i h h' st k=>k it (by simp) _ st
 item:=by
  intro X hP hw hK hc i pins s σ H E I hf st hg
  subst hP hw hK
  obtain⟨f0,f1,f2,f3,f4,f5⟩:=hf it (by simp)
  have W:=Walks.range (prog:=X.prog) (w:=X.w) (I.ok.hd hc) it lo 1 n
  refine W.item i s _ _ hg st fun v h' tk hv st' kk=>?_
  obtain⟨t,rfl⟩:=hv
  have I1:Inv X pins σ H { s with heap:=h',toks:=tk }:=I.turned (fun b o hb e=>kk b o (by simpa using hb) e) f0 f1 f3 f4 f5
  refine#[_,rfl,Qk (s:={ s with heap:=h',toks:=tk }) (n:="range_iterator") st' rfl rfl ∅ #[.int (lo+i),H,I1,#[t,?_],#[rfl,rfl],st',fun b hb=>(hf b hb).1]]
  rw[qBI]
 done:=by
  intro X hP hw hK hc i pins s σ H E I hf st hg
  subst hP hw hK
  obtain⟨f0,f1,f2,f3,f4,f5⟩:=hf it (by simp)
  exact wpAny_pyNext_range_end (I.ok.hd hc) st (by have:n<=i:=hg;omega) fun h' eb=>#[rfl,I.turned (t':=s.toks) (fun b o hb e=>eb b o hb e) f0 f1 f3 f4 f5]
 self:=fun _ _ _ _ _ st h=>wpAny_pyIter_rangeiter st h
section
variable {X:Cx}{tg:Expr}
theorem Ke {pins:List (Addr×Obj)}{σ:St}{H:Hp}{s:Shared}{R:It->Hp->Prop}{E:Value->Shared->Prop}{lo hi:Int}{t u v:Tok}{tk:Nat}(I:Inv X pins σ H s) (h1:-(2^62)<=lo) (h2:lo<2^62) (h3:-(2^62)<=hi) (h4:hi<2^62)
 (q:R (Itr lo (hi-lo).toNat) H):wpAny (model X.prog X.w) X.A (pyIter (.ref s.heap.objs.size)) (PIE X pins σ tg R) E { s with heap:=s.heap.push { cls:=.type "range",data:=.fields (List.toArray [.int lo t,.int hi u,.int 1 v]) },toks:=tk }:=by
 refine wpAny_pyIter_range (IsRange.new ..) (small_one h1 h2 h3 h4) ?_
 have I1:Inv X pins σ H { s with heap:=s.heap.push { cls:=.type "range",data:=.fields (List.toArray [.int lo t,.int hi u,.int 1 v]) },toks:=tk }:=I.kept fun b o e=>qAe _ e
 refine#[(s.heap.push { cls:=.type "range",data:=.fields (List.toArray [.int lo t,.int hi u,.int 1 v]) }).objs.size,[(s.heap.push { cls:=.type "range",data:=.fields (List.toArray [.int lo t,.int hi u,.int 1 v]) }).objs.size],_,_,H,rfl,
  I1.kept (t':=tk) fun b o e=>qAe _ e,K7 _ lo (hi-lo).toNat,?_,fun b hb=>?_,q]
 .have e1:lo+((0:Nat):Int)*1=lo:=by simp
  have e2:(((hi-lo).toNat:Nat):Int)-((0:Nat):Int)=Builtin.Range.rangeSize lo hi 1:=by rw[rangeSize_one];split<;>omega
  show IsRangeIter _ _ (lo+((0:Nat):Int)*1) ((((hi-lo).toNat:Nat):Int)-((0:Nat):Int)) 1
  rw[e1,e2]
  exact qAA _ rfl
 .have e:b=(s.heap.push { cls:=.type "range",data:=.fields (List.toArray [.int lo t,.int hi u,.int 1 v]) }).objs.size:=by simpa using hb
  subst e
  exact I1.fpOk (qAd _) (I1.hok.fresh (qAd _))
def Ql (ta:TA):TI:=fun σ H R=>ta σ H fun vs H1=>∃j:Int,vs=[.int j]/\-(2^62)<=j/\j<2^62/\R (Itr 0 j.toNat) H1
def Pr (ta:TA):TI:=fun σ H R=>ta σ H fun vs H1=>∃i j:Int,vs=[.int i,.int j]/\(-(2^62)<=i/\i<2^62/\-(2^62)<=j/\j<2^62)/\R (Itr i (j-i).toNat) H1
theorem BL {a:Expr}{ta:TA}{p pos:Pos}(hg:Gl X "range") (hm:X.mg "range"=none) (ha:PA X [a] ta) (hs:starEach [a] X.env=[(false,eval a X.env)]:=by rfl):PI X tg (.Call (.Name "range" p) [a] [] pos) (Ql ta):=by
 intro pins s σ H R I h
 refine Call_ (FG I hg hm boot_range (qA9 (thn (ha pos pins s σ H _ I h) fun us s1 #[vs,H1,I1,r1,q1]=>?_) hs rfl))
 obtain⟨j,e,q1,q2,q⟩:=q1
 subst e
 cases r1 with
 |cons r rr =>
  cases rr
  obtain⟨t,rfl⟩:=r
  exact call_range_1 (Ke I1 () () q1 q2 (by simpa using q))
theorem BX {a b:Expr}{ta:TA}{p pos:Pos}(hg:Gl X "range") (hm:X.mg "range"=none) (ha:PA X [a,b] ta) (hs:starEach [a,b] X.env=[(false,eval a X.env),(false,eval b X.env)]:=by rfl) (hs2:starEach [b] X.env=[(false,eval b X.env)]:=by rfl) :
 PI X tg (.Call (.Name "range" p) [a,b] [] pos) (Pr ta):=by
 intro pins s σ H R I h
 refine Call_ (FG I hg hm boot_range (qA9 (thn (ha pos pins s σ H _ I h) fun us s1 #[vs,H1,I1,r1,q1]=>?_) (by rw[hs,hs2]) (by rw[hs2];rfl)))
 obtain⟨i,j,e,⟨q1,q2,q3,q4⟩,q⟩:=q1
 subst e
 cases r1 with
 |cons r rr =>
  cases rr with
  |cons r' rr =>
   cases rr
   obtain⟨t,rfl⟩:=r
   obtain⟨t',rfl⟩:=r'
   exact call_range_2 (Ke I1 q1 q2 q3 q4 q)
def NG (wi:TI)(g:TG)(tb:TS):TS:=fun D σ H=>wi σ H fun J H1=>∃W:Nat->Nat->St->Hp->Prop,(∃m,W 0 m σ H1)/\∀i m σ H,W i m σ H ->
 (J.stop i H/\D.nx σ H)\/(J.go i H/\∃N:St->Hp->Prop,(∀σ' H',N σ' H'->∃m',m'<m/\W (i+1) m' σ' H')/\∀x H',J.yld i H x H'->g x σ H' fun σ2 H2=>tb { D with nx:=N,ct:=N,bk:=D.nx } σ2 H2)
def II (fp:List Addr)(h:Heap):List (Addr×Obj):=fp.filterMap fun b=>(h.get? b).map fun o=>(b,o)
theorem DZ {fp:List Addr}{h:Heap}{b:Addr}{o:Obj}(hb:b∈fp) (e:h.get? b=some o):(b,o)∈II fp h:=qBN.mpr #[b,hb,by rw[e];rfl]
theorem LH {fp:List Addr}{h:Heap}{p:Addr×Obj}(hp:p∈II fp h):p.1∈fp/\h.get? p.1=some p.2:=by
 obtain⟨b,hb,e⟩:=qBN.mp hp
 cases q:h.get? b with
 |none=>rw[q] at e;cases e
 |some o =>
  rw[q] at e
  have e':(b,o)=p:=qAj e
  subst e'
  exact#[hb,q]
theorem Inv.pinned {pins:List (Addr×Obj)}{σ:St}{H:Hp}{s:Shared}{fp:List Addr}(I:Inv X pins σ H s) (hf:∀b∈fp,Nm X pins H b) (ho:∀b∈fp,∃o,s.heap.get? b=some o/\∀v,o.data≠.cell v):Inv X (pins++II fp s.heap) σ H s :=
 I.pins_of fun p hp=>(qAu.mp hp).elim (fun z=>I.pin p (qAJ _ z)) fun z=>by
  obtain⟨hb,e⟩:=LH z
  obtain⟨f0,f1,f2,_⟩:=hf p.1 hb
  obtain⟨o,e',d⟩:=ho p.1 hb
  rw[e] at e';cases e'
  exact#[e,f0,f1,f2,d]
theorem Inv.unpinned {pins pl:List (Addr×Obj)}{σ:St}{H:Hp}{s:Shared}(I:Inv X (pins++pl) σ H s):Inv X pins σ H s:=I.pins_of fun p hp=>I.pin p (qAJ _ (qAX _ hp))
theorem Bq {iter:Expr}{body:List Stmt}{wi:TI}{g:TG}{tb:TS}{pos:Pos}(hp:PassesOwn (model X.prog X.w) X.A X.env X.xe) (hc:X.calm=true) (hi:PI X tg iter wi) (hg:PG X tg g) (hb:PSs X body tb)
 (hs:∀x,foldedSetIterable iter X.env x=pure x:=by intro _;rfl):PS X (.For tg iter body [] pos) (NG wi g tb):=by
 intro pins s σ H D I h
 refine wpAny_For (thn (hi pins s σ H _ I h) fun v s1 h1=>thn h1 fun itv s2 h2=>?_) hs
 obtain⟨it,fp,tn,J,H2,e,I2,T,st2,f2,W,⟨m0,w0⟩,turn⟩:=h2
 subst e
 have stat:∀{H':Hp},(∀b∈fp,H' b=none)->∀b∈fp,Nm X pins H' b:=fun hn b hb=>#[hn b hb,(f2 b hb).2]
 refine codeAny_forLoop_any (fun n s'=>∃i σ' H',Inv X pins σ' H' s'/\tn i s'.heap/\(∀b∈fp,H' b=none)/\W i n σ' H') ?_ m0 #[0,σ,H2,I2,st2,fun b hb=>(f2 b hb).1,w0]
 rintro n s3 ⟨i,σ3,H3,I3,st3,fr3,w3⟩
 rcases turn i n σ3 H3 w3 with⟨stop,qn⟩|⟨go,N,hN,step⟩
 .refine wpAny_passesOwn hp (thn (T.done X rfl rfl rfl hc i pins s3 σ3 H3 X.xe I3 (stat fr3) st3 stop) fun r s4 hh=>?_)
  obtain⟨hr,I4⟩:=hh
  subst hr
  exact wpAny_execs_nil #[σ3,H3,I4,qn]
 .refine wpAny_passesOwn hp (thn (T.item X rfl rfl rfl hc i pins s3 σ3 H3 X.xe I3 (stat fr3) st3 go) fun r s4 hh=>?_)
  obtain⟨u,hr,h4⟩:=hh
  subst hr
  refine wpAny_passesOwn hp (thn h4 fun _ s5 hh=>?_)
  obtain⟨x,H5,I5,r5,y5,st5,fr5⟩:=hh
  have I5':=I5.pinned (stat fr5) (T.obj _ _ st5)
  refine wpAny_passesOwn hp (thn (hg _ s5 σ3 H5 x u _ I5' r5 (step x H5 y5)) fun _ s6 hh=>?_)
  obtain⟨σ6,H6,I6,q6⟩:=hh
  refine wpAny_passesOwn hp (thn (hb _ s6 σ6 H6 _ I6 q6) fun f s7 q7=>?_)
  have again:∀{σ7:St}{H7:Hp},Inv X (pins++II fp s5.heap) σ7 H7 s7->N σ7 H7->∃m,m<n/\∃i σ' H',Inv X pins σ' H' s7/\tn i s7.heap/\(∀b∈fp,H' b=none)/\W i m σ' H':=fun {σ7 H7} I7 n7=>by
   obtain⟨m',hm,w7⟩:=hN σ7 H7 n7
   refine#[m',hm,i+1,σ7,H7,I7.unpinned,T.keep _ _ _ st5 fun b hb o e=>(I7.pin (b,o) (qAJ _ (qAJ _ (DZ hb e)))).1,fun b hb=>?_,w7]
   obtain⟨o,e,d⟩:=T.obj _ _ st5 b hb
   exact(I7.pin (b,o) (qAJ _ (qAJ _ (DZ hb e)))).2.1
  cases f with
  |next=>obtain⟨σ7,H7,I7,n7⟩:=q7;exact again I7 n7
  |cont=>obtain⟨σ7,H7,I7,n7⟩:=q7;exact again I7 n7
  |brk=>obtain⟨σ7,H7,I7,q7⟩:=q7;exact#[σ7,H7,I7.unpinned,q7]
  |ret v=>obtain⟨x7,σ7,H7,I7,r7,q7⟩:=q7;exact#[x7,σ7,H7,I7.unpinned,r7,q7]
end
theorem ND {K:W.Frag}{a:Addr}{xs:List V}{g:TG}{tb:TS}{D:GB}{σ:St}{H:Hp}(Pv:Nat->St->Hp->Prop) (h0:Pv 0 σ H) (hl:∀i σ H,i<=xs.length->Pv i σ H->SqL K H a xs)
 (hs:∀i x σ H,xs[i]? = some x->Pv i σ H->g x σ H fun σ2 H2=>tb { D with nx:=Pv (i+1),ct:=Pv (i+1),bk:=D.nx } σ2 H2) (hd:∀σ H,Pv xs.length σ H->D.nx σ H) :
 ∃W:Nat->Nat->St->Hp->Prop,(∃m,W 0 m σ H)/\∀i m σ H,W i m σ H ->
  ((Itl K a).stop i H/\D.nx σ H)\/((Itl K a).go i H/\∃N:St->Hp->Prop,(∀σ' H',N σ' H'->∃m',m'<m/\W (i+1) m' σ' H')/\∀x H',(Itl K a).yld i H x H'->g x σ H' fun σ2 H2=>tb { D with nx:=N,ct:=N,bk:=D.nx } σ2 H2):=by
 refine#[fun i m σ H=>m=xs.length-i/\i<=xs.length/\Pv i σ H,#[xs.length,by simp,qAS _,h0],?_]
 rintro i m σ H ⟨rfl,hi,p⟩
 have q:=hl i σ H hi p
 by_cases hlt:i<xs.length
 .refine .inr #[#[xs,xs[i],q,by simp[hlt]],Pv (i+1),fun σ' H' p'=>#[xs.length-(i+1),(),rfl,hlt,p'],fun x H' y=>?_]
  obtain⟨e,y⟩:=y
  subst e
  exact hs i x σ _ (y xs q) p
 .have e:i=xs.length:=()
  subst e
  exact .inl #[#[xs,q,qAd _],hd σ H p]
theorem PM {K:W.Frag}{a:Addr}{xs:List V}{g:TG}{tb:TS}{D:GB}{σ:St}{H:Hp}(Pv:Nat->St->Hp->Prop) (h0:Pv 0 σ H) (hl:∀i σ H,i<=xs.length->Pv i σ H->SqT K H a xs)
 (hs:∀i x σ H,xs[i]? = some x->Pv i σ H->g x σ H fun σ2 H2=>tb { D with nx:=Pv (i+1),ct:=Pv (i+1),bk:=D.nx } σ2 H2) (hd:∀σ H,Pv xs.length σ H->D.nx σ H) :
 ∃W:Nat->Nat->St->Hp->Prop,(∃m,W 0 m σ H)/\∀i m σ H,W i m σ H ->
  ((Itt K a).stop i H/\D.nx σ H)\/((Itt K a).go i H/\∃N:St->Hp->Prop,(∀σ' H',N σ' H'->∃m',m'<m/\W (i+1) m' σ' H')/\∀x H',(Itt K a).yld i H x H'->g x σ H' fun σ2 H2=>tb { D with nx:=N,ct:=N,bk:=D.nx } σ2 H2):=by
 refine#[fun i m σ H=>m=xs.length-i/\i<=xs.length/\Pv i σ H,#[xs.length,by simp,qAS _,h0],?_]
 rintro i m σ H ⟨rfl,hi,p⟩
 have q:=hl i σ H hi p
 by_cases hlt:i<xs.length
 .refine .inr #[#[xs,xs[i],q,by simp[hlt]],Pv (i+1),fun σ' H' p'=>#[xs.length-(i+1),(),rfl,hlt,p'],fun x H' y=>?_]
  obtain⟨e,y⟩:=y
  subst e
  exact hs i x σ _ (y xs q) p
 .have e:i=xs.length:=()
  subst e
  exact .inl #[#[xs,q,qAd _],hd σ H p]
theorem ID {lo:Int}{n:Nat}{g:TG}{tb:TS}{D:GB}{σ:St}{H:Hp}(Pv:Nat->St->Hp->Prop) (h0:Pv 0 σ H)
 (hs:∀i σ H,i<n->Pv i σ H->g (.int (lo+i)) σ H fun σ2 H2=>tb { D with nx:=Pv (i+1),ct:=Pv (i+1),bk:=D.nx } σ2 H2) (hd:∀σ H,Pv n σ H->D.nx σ H) :
 ∃W:Nat->Nat->St->Hp->Prop,(∃m,W 0 m σ H)/\∀i m σ H,W i m σ H ->
  ((Itr lo n).stop i H/\D.nx σ H)\/((Itr lo n).go i H/\∃N:St->Hp->Prop,(∀σ' H',N σ' H'->∃m',m'<m/\W (i+1) m' σ' H')/\∀x H',(Itr lo n).yld i H x H'->g x σ H' fun σ2 H2=>tb { D with nx:=N,ct:=N,bk:=D.nx } σ2 H2):=by
 refine#[fun i m σ H=>m=n-i/\i<=n/\Pv i σ H,#[n,by simp,qAS _,h0],?_]
 rintro i m σ H ⟨rfl,hi,p⟩
 by_cases hlt:i<n
 .refine .inr #[hlt,Pv (i+1),fun σ' H' p'=>#[n-(i+1),(),rfl,hlt,p'],fun x H' y=>?_]
  obtain⟨e,y⟩:=y
  subst e y
  exact hs i σ _ hlt p
 .have e:i=n:=()
  subst e
  exact .inl #[qAd _,hd σ H p]
abbrev R2:=V->V->Hp->VK->Prop
def OpR (X:Cx)(f:Value->Value->Sem Value)(r:R2):Prop :=
 ∀(pins:List (Addr×Obj))(s:Shared)(σ:St)(H:Hp)(x y:V)(v u:Value)(Q:VK),Inv X pins σ H s->BF x v->BF y u->r x y H Q ->
  wpAny (model X.prog X.w) X.A (f v u) (EP X pins σ Q) X.xe s
def UnR (X:Cx)(f:Value->Sem Value)(r:V->Hp->VK->Prop):Prop :=
 ∀(pins:List (Addr×Obj))(s:Shared)(σ:St)(H:Hp)(x:V)(v:Value)(Q:VK),Inv X pins σ H s->BF x v->r x H Q ->
  wpAny (model X.prog X.w) X.A (f v) (EP X pins σ Q) X.xe s
def FN (X:Cx)(f:Value)(r:List V->Hp->VK->Prop):Prop :=
 ∀(pins:List (Addr×Obj))(s:Shared)(σ:St)(H:Hp)(xs:List V)(us:List Value)(Q:VK),Inv X pins σ H s->Bt xs us->r xs H Q ->
  wpAny (model X.prog X.w) X.A (call f us) (EP X pins σ Q) X.xe s
def tOp (r:R2)(ta tb:TE):TE:=fun σ H Q=>ta σ H fun x H1=>tb σ H1 fun y H2=>r x y H2 Q
def tUn (r:V->Hp->VK->Prop)(ta:TE):TE:=fun σ H Q=>ta σ H fun x H1=>r x H1 Q
def rI (C:Int->Int->Prop)(g:Int->Int->V):R2:=fun x y H Q=>∃i j,x=.int i/\y=.int j/\C i j/\Q (g i j) H
def rI0 (g:Int->Int->V):R2:=fun x y H Q=>∃i j,x=.int i/\y=.int j/\Q (g i j) H
def rU (g:Int->V):V->Hp->VK->Prop:=fun x H Q=>∃i,x=.int i/\Q (g i) H
section
variable {X:Cx}{a b c:Expr}{ta tb tc:TE}{pos:Pos}
theorem T4 (ha:PE X a ta)(hb:PE X b tb){pins:List (Addr×Obj)}{s:Shared}{σ:St}{H:Hp}{R:V->V->Hp->Prop}(I:Inv X pins σ H s)
 (h:ta σ H fun x H1=>tb σ H1 fun y H2=>R x y H2){Q:Value->Shared->Prop}{f:Value->Value->Sem Value}
 (hf:∀v u s2 x y H2,Inv X pins σ H2 s2->BF x v->BF y u->R x y H2->wpAny (model X.prog X.w) X.A (f v u) Q X.xe s2) :
 wpAny (model X.prog X.w) X.A (eval a X.env) (fun v s₁=>wpAny (model X.prog X.w) X.A (eval b X.env) (fun u s₂=>wpAny (model X.prog X.w) X.A (f v u) Q X.xe s₂) X.xe s₁) X.xe s:=by
 refine thn (ha pins s σ H _ I h) fun v s1 hh=>?_
 obtain⟨x,H1,I1,r1,q1⟩:=hh
 refine thn (hb pins s1 σ H1 _ I1 q1) fun u s2 hh=>?_
 obtain⟨y,H2,I2,r2,q2⟩:=hh
 exact hf v u s2 x y H2 I2 r1 r2 q2
theorem Qv {op:Operator}{r:R2}(ho:OpR X (binaryOp op) r) (ha:PE X a ta) (hb:PE X b tb):PE X (.BinOp a op b pos) (tOp r ta tb):=by
 intro pins s σ H Q I h
 exact wpAny_BinOp (T4 ha hb I h fun v u s2 x y H2 I2 rx ry q=>ho pins s2 σ H2 x y v u Q I2 rx ry q)
theorem Tw {op:UnaryOp}{r:V->Hp->VK->Prop}(ho:UnR X (unaryOp op) r) (ha:PE X a ta):PE X (.UnaryOp op a pos) (tUn r ta):=by
 intro pins s σ H Q I h
 exact UnaryOp_ (thn (ha pins s σ H _ I h) fun v s1 #[x,H1,I1,r1,q1]=>ho pins s1 σ H1 x v Q I1 r1 q1)
theorem opI {f:Value->Value->Sem Value}{C:Int->Int->Prop}{g:Int->Int->Int}
 (rule:∀(i j:Int)(t u:Tok)(s:Shared)(Q:Value->Shared->Prop)(E:Value->Shared->Prop),C i j->Q (.int (g i j) s.toks) { s with toks:=s.toks+1 }->wpAny (model X.prog X.w) X.A (f (.int i t) (.int j u)) Q E s) :
 OpR X f (rI C fun i j=>.int (g i j)):=by
 intro pins s σ H x y v u Q I rx ry h
 obtain⟨i,j,rfl,rfl,hc,q⟩:=h
 obtain⟨t,rfl⟩:=rx
 obtain⟨t',rfl⟩:=ry
 exact rule i j t t' s _ _ hc #[.int (g i j),H,I.tok _,#[_,rfl],q]
theorem US {f:Value->Value->Sem Value}{g:Int->Int->Int}
 (rule:∀(i j:Int)(t u:Tok)(s:Shared)(Q:Value->Shared->Prop)(E:Value->Shared->Prop),Q (.int (g i j) s.toks) { s with toks:=s.toks+1 }->wpAny (model X.prog X.w) X.A (f (.int i t) (.int j u)) Q E s) :
 OpR X f (rI0 fun i j=>.int (g i j)):=by
 intro pins s σ H x y v u Q I rx ry h
 obtain⟨i,j,rfl,rfl,q⟩:=h
 obtain⟨t,rfl⟩:=rx
 obtain⟨t',rfl⟩:=ry
 exact rule i j t t' s _ _ #[.int (g i j),H,I.tok _,#[_,rfl],q]
theorem S7 {f:Value->Value->Sem Value}{g:Int->Int->Bool}
 (rule:∀(i j:Int)(t u:Tok)(s:Shared)(Q:Value->Shared->Prop)(E:Value->Shared->Prop),Q (.bool (g i j)) s->wpAny (model X.prog X.w) X.A (f (.int i t) (.int j u)) Q E s) :
 OpR X f (rI0 fun i j=>.bl (g i j)):=by
 intro pins s σ H x y v u Q I rx ry h
 obtain⟨i,j,rfl,rfl,q⟩:=h
 obtain⟨t,rfl⟩:=rx
 obtain⟨t',rfl⟩:=ry
 exact rule i j t t' s _ _ #[.bl (g i j),H,I,rfl,q]
def UU (i j:Int):Prop:=0<=j/\j<=1000000/\i.natAbs<2^64
def S5 (i j:Int):Prop:=(-(2^64)<i/\i<2^64)\/(-(2^64)<j/\j<2^64)
theorem S5.ok {i j:Int}(h:S5 i j):IntMulOk i j:=by
 rcases h with⟨h1,h2⟩|⟨h1,h2⟩
 .exact .of_left (intBits_le_64 h1 h2)
 .exact .of_right (intBits_le_64 h1 h2)
theorem OI:OpR X (binaryOp .Add) (rI0 fun i j=>.int (i+j)):=US fun _ _ _ _ _ _ _ q=>add_int q
theorem RF:OpR X (binaryOp .Sub) (rI0 fun i j=>.int (i-j)):=US fun _ _ _ _ _ _ _ q=>sub_int q
theorem Rk:OpR X (binaryOp .Mult) (rI S5 fun i j=>.int (i*j)):=opI fun _ _ _ _ _ _ _ hc q=>mul_int q hc.ok
theorem Qw:OpR X (binaryOp .Mod) (rI (fun _ j=>j≠0) fun i j=>.int (i.fmod j)):=opI fun _ _ _ _ _ _ _ hc q=>mod_int' hc q
theorem RE:OpR X (binaryOp .Pow) (rI UU fun i j=>.int (i^j.toNat)):=opI fun _ _ _ _ _ _ _ hc q=>pow_int_small hc.1 hc.2.1 hc.2.2 q
theorem unI {f:Value->Sem Value}{g:Int->Int}
 (rule:∀(i:Int)(t:Tok)(s:Shared)(Q:Value->Shared->Prop)(E:Value->Shared->Prop),Q (.int (g i) s.toks) { s with toks:=s.toks+1 }->wpAny (model X.prog X.w) X.A (f (.int i t)) Q E s) :
 UnR X f (rU fun i=>.int (g i)):=by
 intro pins s σ H x v Q I rx h
 obtain⟨i,rfl,q⟩:=h
 obtain⟨t,rfl⟩:=rx
 exact rule i t s _ _ #[.int (g i),H,I.tok _,#[_,rfl],q]
theorem Sv:UnR X (unaryOp .USub) (rU fun i=>.int (-i)):=unI fun _ _ _ _ _ q=>neg_int q
end
def UK:V->V->Bool
 |.non,.non=>true|.non,.int _=>true|.int _,.non=>true|.non,.bl _=>true|.bl _,.non=>true|.non,.str _=>true|.str _,.non=>true
 |.int _,.int _=>true|.bl _,.bl _=>true|.str _,.str _=>true|.byt _,.byt _=>true
 |.int _,.str _=>true|.str _,.int _=>true|.bl _,.str _=>true|.str _,.bl _=>true
 |_,_=>false
def rEq:R2:=fun x y H Q=>UK x y=true/\Q (.bl (decide (x=y))) H
def rNe:R2:=fun x y H Q=>UK x y=true/\Q (.bl (!decide (x=y))) H
theorem LJ {i j:Int}:decide (V.int i=V.int j)=(i==j):=by
 rw[qBx]
 simp
theorem OG {i j:Bool}:decide (V.bl i=V.bl j)=(i==j):=by
 rw[qBx]
 simp
theorem MX {i j:Str}:decide (V.str i=V.str j)=(i==j):=by
 rw[qBx]
 simp
theorem M9 {i j:Array UInt8}:decide (V.byt i=V.byt j)=(i.toList==j.toList):=by
 rw[qBx]
 cases i
 cases j
 simp
section
variable {X:Cx}{a b c:Expr}{ta tb tc:TE}{pos:Pos}
theorem AS {pins:List (Addr×Obj)}{σ:St}{H:Hp}{s:Shared}{Q:VK}{k k':Bool}(I:Inv X pins σ H s) (q:Q (.bl k) H) (e:k=k'):EP X pins σ Q (.bool k') s:=by
 subst e
 exact#[.bl k,H,I,rfl,q]
theorem T9:OpR X (compareOp .Eq) rEq:=by
 intro pins s σ H x y v u Q I rx ry h
 obtain⟨hs,q⟩:=h
 cases x with
 |non =>
  cases rx
  cases y with
  |non=>cases ry;exact PySem.EqNone.eq_none_none (AS I q (by simp))
  |bl j=>cases ry;exact PySem.EqNone.eq_none_bool (AS I q (by simp))
  |int j=>obtain⟨t',rfl⟩:=ry;exact PySem.EqNone.eq_none_int (AS I q (by simp))
  |str j=>obtain⟨t',rfl⟩:=ry;exact PySem.EqNone.eq_none_str (AS I q (by simp))
  |_=>exact absurd (show false=true from hs) qAm
 |bl i =>
  cases rx
  cases y with
  |non=>cases ry;exact PySem.EqNone.eq_bool_none (AS I q (by simp))
  |bl j=>cases ry;exact eq_bool (AS I q OG)
  |str j=>obtain⟨t',rfl⟩:=ry;exact PySem.EqMixed.eq_bool_str (AS I q (by simp))
  |_=>exact absurd (show false=true from hs) qAm
 |int i =>
  obtain⟨t,rfl⟩:=rx
  cases y with
  |non=>cases ry;exact PySem.EqNone.eq_int_none (AS I q (by simp))
  |int j=>obtain⟨t',rfl⟩:=ry;exact eq_int (AS I q LJ)
  |str j=>obtain⟨t',rfl⟩:=ry;exact PySem.EqMixed.eq_int_str (AS I q (by simp))
  |_=>exact absurd (show false=true from hs) qAm
 |str i =>
  obtain⟨t,rfl⟩:=rx
  cases y with
  |non=>cases ry;exact PySem.EqNone.eq_str_none (AS I q (by simp))
  |bl j=>cases ry;exact PySem.EqMixed.eq_str_bool (AS I q (by simp))
  |int j=>obtain⟨t',rfl⟩:=ry;exact PySem.EqMixed.eq_str_int (AS I q (by simp))
  |str j=>obtain⟨t',rfl⟩:=ry;exact eq_str (AS I q MX)
  |_=>exact absurd (show false=true from hs) qAm
 |byt i =>
  obtain⟨t,rfl⟩:=rx
  cases y with
  |byt j=>obtain⟨t',rfl⟩:=ry;exact W.eq_bytes (AS I q M9)
  |_=>exact absurd (show false=true from hs) qAm
 |_=>cases y<;>exact absurd (show false=true from hs) qAm
theorem Uj:OpR X (compareOp .NotEq) rNe:=by
 intro pins s σ H x y v u Q I rx ry h
 obtain⟨hs,q⟩:=h
 cases x with
 |non =>
  cases rx
  cases y with
  |non=>cases ry;exact PySem.EqNone.ne_none_none (AS I q (by simp))
  |bl j=>cases ry;exact PySem.EqNone.ne_none_bool (AS I q (by simp))
  |int j=>obtain⟨t',rfl⟩:=ry;exact PySem.EqNone.ne_none_int (AS I q (by simp))
  |str j=>obtain⟨t',rfl⟩:=ry;exact PySem.EqNone.ne_none_str (AS I q (by simp))
  |_=>exact absurd (show false=true from hs) qAm
 |bl i =>
  cases rx
  cases y with
  |non=>cases ry;exact PySem.EqNone.ne_bool_none (AS I q (by simp))
  |bl j=>cases ry;exact ne_bool (AS I q (congrArg not OG))
  |str j=>obtain⟨t',rfl⟩:=ry;exact PySem.EqMixed.ne_bool_str (AS I q (by simp))
  |_=>exact absurd (show false=true from hs) qAm
 |int i =>
  obtain⟨t,rfl⟩:=rx
  cases y with
  |non=>cases ry;exact PySem.EqNone.ne_int_none (AS I q (by simp))
  |int j=>obtain⟨t',rfl⟩:=ry;exact ne_int (AS I q (congrArg not LJ))
  |str j=>obtain⟨t',rfl⟩:=ry;exact PySem.EqMixed.ne_int_str (AS I q (by simp))
  |_=>exact absurd (show false=true from hs) qAm
 |str i =>
  obtain⟨t,rfl⟩:=rx
  cases y with
  |non=>cases ry;exact PySem.EqNone.ne_str_none (AS I q (by simp))
  |bl j=>cases ry;exact PySem.EqMixed.ne_str_bool (AS I q (by simp))
  |int j=>obtain⟨t',rfl⟩:=ry;exact PySem.EqMixed.ne_str_int (AS I q (by simp))
  |str j=>obtain⟨t',rfl⟩:=ry;exact ne_str (AS I q (congrArg not MX))
  |_=>exact absurd (show false=true from hs) qAm
 |byt i =>
  obtain⟨t,rfl⟩:=rx
  cases y with
  |byt j=>obtain⟨t',rfl⟩:=ry;exact W.ne_bytes (AS I q (congrArg not M9))
  |_=>exact absurd (show false=true from hs) qAm
 |_=>cases y<;>exact absurd (show false=true from hs) qAm
theorem Ug:OpR X (compareOp .Lt) (rI0 fun i j=>.bl (decide (i<j))):=S7 fun _ _ _ _ _ _ _ q=>lt_int q
theorem T8:OpR X (compareOp .LtE) (rI0 fun i j=>.bl (decide (i<=j))):=S7 fun _ _ _ _ _ _ _ q=>le_int q
theorem Q8:OpR X (compareOp .Gt) (rI0 fun i j=>.bl (decide (j<i))):=S7 fun _ _ _ _ _ _ _ q=>gt_int q
theorem Uh:OpR X (compareOp .GtE) (rI0 fun i j=>.bl (decide (j<=i))):=S7 fun _ _ _ _ _ _ _ q=>ge_int q
theorem OpR.or {f:Value->Value->Sem Value}{r r':R2}(h:OpR X f r) (h':OpR X f r'):OpR X f (fun x y H Q=>r x y H Q\/r' x y H Q):=by
 intro pins s σ H x y v u Q I rx ry q
 rcases q with q|q
 .exact h pins s σ H x y v u Q I rx ry q
 .exact h' pins s σ H x y v u Q I rx ry q
theorem Ej (b:Expr){op:CmpOp}(h:op≠.In:=by decide) (h2:op≠.NotIn:=by decide):behindInMarks op b=false:=by
 have e1:(op==CmpOp.In)=false:=by cases op<;>first|rfl|exact absurd rfl h
 have e2:(op==CmpOp.NotIn)=false:=by cases op<;>first|rfl|exact absurd rfl h2
 cases b<;>simp[behindInMarks,e1,e2]
theorem Nb {op:CmpOp}{r:R2}(ho:OpR X (compareOp op) r) (ha:PE X a ta) (hb:PE X b tb) (hm:behindInMarks op b=false):PE X (.Compare a [op] [b] pos) (tOp r ta tb):=by
 intro pins s σ H Q I h
 exact wpAny_Compare1 (T4 ha hb I h fun v u s2 x y H2 I2 rx ry q=>ho pins s2 σ H2 x y v u Q I2 rx ry q) hm
def NZ (t:TE):TT:=fun σ H Q=>t σ H fun x H'=>∃k,x=.bl k/\Q k H'
theorem Jv {op:CmpOp}{r:R2}(ho:OpR X (compareOp op) r) (ha:PE X a ta) (hb:PE X b tb) (hm:behindInMarks op b=false):PT X (.Compare a [op] [b] pos) (NZ (tOp r ta tb)):=by
 intro pins s σ H Q I h
 refine wpAny_isTrue_Compare1 (thn (ha pins s σ H _ I h) fun v s1 #[x,H1,I1,r1,q1]=>thn (hb pins s1 σ H1 _ I1 q1) fun u s2 #[y,H2,I2,r2,q2] =>
  thn (ho pins s2 σ H2 x y v u _ I2 r1 r2 q2) fun c s3 #[z,H3,I3,r3,k,e,q3]=>?_) hm
 subst e
 cases r3
 exact wpAny_truthy_bool #[H3,I3,q3]
theorem Kb:(sizeLine:Nat)<2^63:=by rw[sizeLine_eq];decide
theorem Hf {x:V}{us:List Value}(r:Bt [x] us):∃u,us=[u]/\BF x u:=by
 cases r with
 |cons r1 r2=>cases r2;exact#[_,rfl,r1]
theorem Tg {x y:V}{us:List Value}(r:Bt [x,y] us):∃u w',us=[u,w']/\BF x u/\BF y w':=by
 cases r with
 |cons r1 r2 =>
  cases r2 with
  |cons r3 r4=>cases r4;exact#[_,_,rfl,r1,r3]
theorem N6:FN X (.builtin "abs") (fun xs H Q=>∃i,xs=[.int i]/\Q (.int (if i<0 then -i else i)) H):=by
 intro pins s σ H xs us Q I r h
 obtain⟨i,rfl,q⟩:=h
 obtain⟨u,rfl,t,rfl⟩:=Hf r
 exact call_abs_int fun u tk=>#[.int (if i<0 then -i else i),H,I.tok _,#[_,rfl],q]
theorem Mc:FN X (.type "int") (fun xs H Q=>(∃i,xs=[.int i]/\Q (.int i) H)\/∃k,xs=[.bl k]/\Q (.int (if k then 1 else 0)) H):=by
 intro pins s σ H xs us Q I r h
 rcases h with⟨i,rfl,q⟩|⟨k,rfl,q⟩
 .obtain⟨u,rfl,t,rfl⟩:=Hf r
  exact call_int_int #[.int i,H,I,#[_,rfl],q]
 .obtain⟨u,rfl,r1⟩:=Hf r
  cases r1
  exact call_int_bool #[.int (if k then 1 else 0),H,I.tok _,#[_,rfl],q]
end
structure Us (h:Heap)(x dx C:Addr)(mA:Str->Option Value):Prop where
 obj:h.get? x=some (W.instObj C dx)
 ns:h.Ns1 dx mA
 ne:dx≠x
theorem Mn {h:Heap}{dx:Addr}{mA:Str->Option Value}(n:h.Ns1 dx mA):∃od,h.get? dx=some od/\∀name,W.lookIn name od=some (mA name):=by
 obtain⟨o,es,ep,ho,hd,hk,_,hm⟩:=n
 refine#[o,ho,fun name=>?_]
 have e:=hm name
 unfold nsFind findBy at e
 rw[<-Array.find?_toList] at e
 unfold W.lookIn
 rw[hd]
 dsimp only
 split
 .rename_i y q
  rw[q] at e
  exact congrArg some e
 .rename_i q
  rw[q] at e
  have a:es.toList.any (·.refKey)=false:=by
   rw[List.any_eq_false]
   intro y hy
   obtain⟨z,t,hkey⟩:=hk y (Array.mem_toList_iff.mp hy)
   simp[DictEntry.refKey,hkey]
  have a':¬es.toList.any (·.refKey)=true:=by rw[a];exact qAm
  rw[if_neg a']
  exact congrArg some e
theorem Us.look {h:Heap}{x dx C:Addr}{mA:Str->Option Value}(I:Us h x dx C mA):∃od,W.InstAt h x (W.instObj C dx) C (some od)/\∀name,W.lookIn name od=some (mA name) :=
 let #[od,ho,hl]:=Mn I.ns
 #[od,#[I.obj,rfl,rfl,ho],hl]
section
variable {prog:Program}{w:World}{A:Around}{E:Value->Shared->Prop}{s:Shared}{K:W.Frag}{x dx C f:Addr}{mA:Str->Option Value}{name:Str}{v:Value}
end
section
variable {P:Program}{w:World}{H H':Hp}{h h':Heap}{a C dx:Addr}{fs fs':List (Str×V)}
theorem QT (hok:HOk P w H h)(e:H a=some (.ins C dx fs)):∃mA,Us h a dx C mA/\(∀f,TN (fs.lookup f) (mA f))/\PySem.Within mA (fs.map (·.1))/\fs.length<=1000/\H dx=some (.own a):=by
 obtain⟨d,z,ne,ob,mA,n,r,q⟩:=(show Ca P w H h a (.ins C dx fs) from hok a _ e)
 exact#[mA,#[ob,n,ne],r,q,z,d]
end
structure Cls (K:W.Frag)(C:Addr):Prop where
 pg:W.plainGet K C Str.empty=true
 hd:W.hasDictIn K C=true
 po:W.plainOver K C=true
 sa:W.findIn K (.ref C) "__setattr__"=some (some (.builtin "object.__setattr__"))
theorem Cls.get {K:W.Frag}{C:Addr}(c:Cls K C) (f:Str):W.plainGet K C f=true:=c.pg
section
variable {X:Cx}{pins:List (Addr×Obj)}{σ:St}{H:Hp}{s:Shared}{a C dx:Addr}{fs:List (Str×V)}{f:Str}{v:V}{A:Around}{E:Value->Shared->Prop}
end
section
variable {X:Cx}{o e value:Expr}{f:Str}{pos pos' tpos:Pos}{ta tv:TE}
end
section
variable {X:Cx}{pins:List (Addr×Obj)}{σ:St}{H:Hp}{s:Shared}{A:Around}{E:Value->Shared->Prop}{Q:Value->Shared->Prop}{c:Value}{b:Bool}
inductive Lx (K:W.Frag)(H:Hp):V->Value->Prop where
 |non:Lx K H .non (.type "NoneType")
 |bl (x:Bool):Lx K H (.bl x) (.type "bool")
 |int (i:Int):Lx K H (.int i) (.type "int")
 |str (x:Str):Lx K H (.str x) (.type "str")
 |flt (x:UInt64):Lx K H (.flt x) (.type "float")
 |lst {a:Addr}{xs:List V}(e:H a=some (.lst xs)):Lx K H (.ref a) (.type "list")
 |frz {a:Addr}{o:Obj}{xs:List V}(e:H a=some (.frz o (.lst xs))):Lx K H (.ref a) (.type "list")
 |tup {a:Addr}{xs:List V}(e:H a=some (.tup xs)):Lx K H (.ref a) (.type "tuple")
 |dK {a:Addr}{kvs:List (Key×V)}(e:H a=some (.dK kvs)):Lx K H (.ref a) (.type "dict")
 |dT {a:Addr}{kvs:List (List Key×V)}(e:H a=some (.dT kvs)):Lx K H (.ref a) (.type "dict")
 |ins {a C dx:Addr}{fs:List (Str×V)}(e:H a=some (.ins C dx fs)) (cl:Cls K C) (ha:W.findIn K (.ref C) "__class__"=some (some (.builtin "object.__class__")))
  (hn:W.specialIn K (.builtin "object.__class__") "__get__"=some (some (.builtin "getset_descriptor.__get__"))) (htk:W.takesIn K (.builtin "object.__class__")=some true)
  (hm:W.mroIn K C (.type "object")=some true):Lx K H (.ref a) (.ref C)
theorem EI {x:V}{u t:Value}(I:Inv X pins σ H s) (rx:BF x u) (ty:Lx X.K H x t) (e:W.kitOne X.K t c=some b) (h:∀tk,Q (.bool b) { s with toks:=tk }) :
 wpAny (model X.prog X.w) A (call (.builtin "isinstance") [u,c]) Q E s:=by
 cases ty with
 |non=>cases (show u=Value.none from rx);exact qAP W.kitx_none I.kIn True.intro e (fun z=>nomatch z) h
 |bl y=>cases (show u=Value.bool y from rx);exact qAP W.kitx_bool I.kIn True.intro e (fun z=>nomatch z) h
 |int i=>obtain⟨t,q⟩:=(show ∃t,u=Value.int i t from rx);cases q;exact qAP W.kitx_int I.kIn True.intro e (fun z=>nomatch z) h
 |str y=>obtain⟨t,q⟩:=(show ∃t,u=Value.str y t from rx);cases q;exact qAP W.kitx_str I.kIn True.intro e (fun z=>nomatch z) h
 |flt y=>obtain⟨t,q⟩:=(show ∃t,u=Value.float y t from rx);cases q;exact qAP W.kitx_float I.kIn True.intro e (fun z=>nomatch z) h
 |@lst a xs ea =>
  cases (show u=Value.ref a from rx)
  obtain⟨_,_,n,_,h1⟩:=(show Ca X.prog X.w H s.heap a (.lst xs) from I.hok a _ ea)
  exact qAP qBB I.kIn #[_,h1,rfl] e (fun z=>nomatch z) h
 |@frz a ob xs ea =>
  cases (show u=Value.ref a from rx)
  obtain⟨_,_,_,n,_,h1⟩:=(show Ca X.prog X.w H s.heap a (.frz ob (.lst xs)) from I.hok a _ ea)
  exact qAP qBB I.kIn #[_,h1,rfl] e (fun z=>nomatch z) h
 |@tup a xs ea =>
  cases (show u=Value.ref a from rx)
  obtain⟨_,_,_,p⟩:=(show Ca X.prog X.w H s.heap a (.tup xs) from I.hok a _ ea)
  obtain⟨o,h1,h2,_⟩:=p
  exact qAP W.kitx_tuple I.kIn #[o,h1,h2] e (fun z=>nomatch z) h
 |@dK a kvs ea =>
  cases (show u=Value.ref a from rx)
  obtain⟨_,_,vs,_,p⟩:=(show Ca X.prog X.w H s.heap a (.dK kvs) from I.hok a _ ea)
  obtain⟨o,es,ep,h1,h2,_⟩:=p
  exact qAP W.kitx_dict I.kIn #[o,h1,h2.1] e (fun z=>nomatch z) h
 |@dT a kvs ea =>
  cases (show u=Value.ref a from rx)
  obtain⟨_,_,xs,_,o,es,ep,h1,h2,_⟩:=(show Ca X.prog X.w H s.heap a (.dT kvs) from I.hok a _ ea)
  exact qAP W.kitx_dict I.kIn #[o,h1,h2.1] e (fun z=>nomatch z) h
 |@ins a C dx fs ea cl ha hn htk hm =>
  cases (show u=Value.ref a from rx)
  obtain⟨mA,O,_⟩:=QT I.hok ea
  obtain⟨od,J,_⟩:=O.look
  exact qAP (W.kitx_own (cl.get _) cl.hd ha hn htk hm) I.kIn J e (fun z=>nomatch z) h
end
structure Eh (k:Nat)(A:Around):Prop where
 hd:A.handled=none
 dp:A.depth+3*k+5<recursionLimit
 un:A.units+16*k+200<cLine
theorem Eh.mono {j k:Nat}{A:Around}(r:Eh k A) (h:j<=k):Eh j A:=#[r.hd,by have:=r.dp;omega,by have:=r.un;omega]
theorem Eh.deeper {k:Nat}{A:Around}(r:Eh (k+1) A) (env:Env):Eh k (A.deeper env) :=
 #[r.hd,by have:=r.dp;show A.depth+1+3*k+5<_;omega,by have:=r.un;show A.units+3+16*k+200<_;omega]
theorem Eh.depth {k:Nat}{A:Around}(r:Eh k A):A.depth<recursionLimit:=by have:=r.dp;omega
def GA:TA:=fun _ H Q=>Q [] H
def AY (ta:TE)(tr:TA):TA:=fun σ H Q=>ta σ H fun x H1=>tr σ H1 fun xs H2=>Q (x::xs) H2
section
variable {X:Cx}{e:Expr}{es:List Expr}{te:TE}{t:TA}{pos:Pos}
theorem AA:PA X [] GA:=fun _ _ _ _ H Q I h=>Calls.spliced_nil #[[],H,I,.nil,h]
theorem Ak (ha:PE X e te)(hr:PA X es t)(hs:starEach (e::es) X.env=(false,eval e X.env)::starEach es X.env:=by rfl):PA X (e::es) (AY te t):=by
 intro pos pins s σ H Q I h
 rw[hs]
 show wpAny _ _ (spliced ((false,eval e X.env)::backTo pos (starEach es X.env))) _ _ s
 refine Calls.spliced_cons (thn (ha pins s σ H _ I h) fun u s1 hh=>?_)
 obtain⟨x,H1,I1,r1,q1⟩:=hh
 exact thn (hr pos pins s1 σ H1 _ I1 q1) fun us s2 #[xs,H2,I2,r2,q2]=>#[x::xs,H2,I2,.cons r1 r2,q2]
def Vs (t:TA):TE:=fun σ H Q=>t σ H fun xs H1=>xs.length<=sizeLine/\∀p,H1 p=none->Q (.ref p) (upd H1 p (.tup xs))
def P8 (t:TA):TE:=fun σ H Q=>t σ H fun xs H1=>xs.length<=sizeLine/\∀p,H1 p=none->Q (.ref p) (upd H1 p (.lst xs))
theorem Sf {x1}(h:PA X es t):PE X (.Tuple es x1 pos) (Vs t):=by
 intro pins s σ H Q I hq
 refine wpAny_Tuple_spliced (thn (h pos pins s σ H _ I hq) fun us s1 #[xs,H1,I1,r,z,q]=>#[by rw[<-r.length];exact z,?_])
 have hf:H1 s1.heap.objs.size=none:=I1.hok.fresh (qAd _)
 refine#[.ref s1.heap.objs.size,upd H1 s1.heap.objs.size (.tup xs),I1.laid (t':=s1.toks) (fun b u e=>qAe _ e) (qAd _) ?_,rfl,q _ hf]
 exact#[z,us,r,#[_,qAA _ rfl,rfl,_,rfl]]
theorem Mg (h:PA X es t):PE X (.List es pos) (P8 t):=by
 intro pins s σ H Q I hq
 refine wpAny_List_spliced (thn (h pos pins s σ H _ I hq) fun us s1 #[xs,H1,I1,r,z,q]=>#[by rw[<-r.length];exact z,?_])
 have hf:H1 s1.heap.objs.size=none:=I1.hok.fresh (qAd _)
 refine#[.ref s1.heap.objs.size,upd H1 s1.heap.objs.size (.lst xs),I1.laid (t':=s1.toks) (fun b u e=>qAe _ e) (qAd _) ?_,rfl,q _ hf]
 exact#[z,us,0,r,qAA _ rfl]
end
abbrev Sp:=List V->Hp->VK->XK->Prop
abbrev CXT:=List Env->Hp->Shared->XK->Value->Shared->Prop
structure QA (P:Program)(w:World)(K:W.Frag)(mg:Str->Option Value)(base:Heap)(A:Around)(outer:List Env)(s:Shared)(H:Hp):Prop where
 frames:A.frames=some outer
 mod:Mod K mg base
 bs:∀b o,base.get? b=some o->s.heap.get? b=some o/\H b=none
 bsz:base.objs.size<=s.heap.objs.size
 funs:s.heap.FunFrames base outer
 frf:∀b∈frs outer,H b=none
 hok:HOk P w H s.heap
 bare:AllBare s.gens
 tb:TB P K mg base H
def CE (outer:List Env)(P:Program)(w:World)(H:Hp)(s:Shared)(Q:VK)(u:Value)(s':Shared):Prop :=
 ∃v H',s'.os=s.os/\AllBare s'.gens/\Un (frs outer) [] H H' s.heap s'.heap/\HOk P w H' s'.heap/\BF v u/\Q v H'
def CR (CX:CXT)(outer:List Env)(P:Program)(w:World)(H:Hp)(s:Shared)(Q:VK)(E:XK)(r:Result)(s':Shared):Prop :=
 match r with
 |.ok (.ret u)=>CE outer P w H s Q u s'
 |.ok _=>False
 |.error e=>CX outer H s E e s'
structure Az (P:Program)(w:World)(K:W.Frag)(mg:Str->Option Value)(base:Heap)(CX:CXT)(k:Nat)(f:Addr)(fd:FuncData)(ps:List Str)(sp:Sp):Prop where
 len:∀vs H Q E,sp vs H Q E->vs.length=ps.length
 run:∀(A:Around)(outer:List Env)(s:Shared)(H:Hp)(args:Args)(us:List Value)(vs:List V)(Q:VK)(E:XK),Eh k A->QA P w K mg base A outer s H->BindsTo s fd args (ps.zip us)->Bt vs us->sp vs H Q E ->
  codeAny (model P w) A (.call (.ref f) args) (CR CX outer P w H s Q E) s
theorem Az.imp {P:Program}{w:World}{K:W.Frag}{mg:Str->Option Value}{base:Heap}{CX:CXT}{k:Nat}{f:Addr}{fd:FuncData}{ps:List Str}{sp sp':Sp}(F:Az P w K mg base CX k f fd ps sp)
 (h:∀vs H Q E,sp' vs H Q E->sp vs H Q E):Az P w K mg base CX k f fd ps sp' :=
 #[fun vs H Q E q=>F.len vs H Q E (h _ _ _ _ q),fun A outer s H args us vs Q E hr he hb hv hs=>F.run A outer s H args us vs Q E hr he hb hv (h _ _ _ _ hs)]
section
variable {X:Cx}{pins:List (Addr×Obj)}{σ:St}{H:Hp}{s s':Shared}
theorem Inv.env0 (I:Inv X pins σ H s):QA X.prog X.w X.K X.mg X.base X.A X.stack s H :=
 #[I.ok.frames,I.ok.mod,I.bs,qAG I.ok.bsz I.sz,I.stack,I.stkFree,I.hok,I.bare,I.tb]
theorem Inv.after {Q:VK}{u:Value}(I:Inv X pins σ H s) (h:CE X.stack X.prog X.w H s Q u s'):EP X pins σ Q u s':=by
 obtain⟨v,H',os,bare,un,hok,r,q⟩:=h
 obtain⟨hh,g,d,t,os'⟩:=s'
 obtain rfl:os'=s.os:=os
 exact#[v,H',I.call (h':=hh) (g':=g) (d':=d) (t':=t) (ch:=[]) un hok bare (fun b z=>absurd z (by simp)),r,q]
end
def Jd (sp:Sp)(dvs:List V)(E:XK)(t:TA):TE:=fun σ H Q=>t σ H fun vs H1=>sp (vs++dvs) H1 Q E
def JE (K:W.Frag)(fd:FuncData)(ps:List Str)(ds:List Value):Prop :=
 ∀(s:Shared)(us:List Value),K.In s.heap->(us++ds).length=ps.length->BindsTo s fd #[us,[]] (ps.zip (us++ds))
theorem JE.all {K:W.Frag}{fd:FuncData}{ps:List Str}(h:∀us:List Value,us.length=ps.length->bindArgs fd #[us,[]]=pure (ps.zip us)):JE K fd ps []:=fun s us _ hl=>by
 rw[qBL] at hl ⊢
 exact .of_eq (h us hl)
def OP (CX:CXT)(X:Cx)(E:XK):Prop:=∀(pins:List (Addr×Obj))(σ:St)(H:Hp)(s:Shared)(e:Value)(s':Shared),Inv X pins σ H s->CX X.stack H s E e s'->X.xe e s'
section
variable {X:Cx}{CX:CXT}{k:Nat}{f C:Addr}{fd:FuncData}{ps:List Str}{sp:Sp}{dvs:List V}{ds:List Value}{E:XK}{x m:Str}{p pos apos:Pos}{e o:Expr}{es:List Expr}{ta:TE}{t:TA}
theorem Ro {pins:List (Addr×Obj)}{σ:St}{H:Hp}{s:Shared}{Q:VK}{us:List Value}{vs:List V}(F:Az X.prog X.w X.K X.mg X.base CX k f fd ps sp) (hr:Eh k X.A) (hb:JE X.K fd ps ds) (hd:Bt dvs ds) (hx:OP CX X E)
 (I:Inv X pins σ H s) (r:Bt vs us) (h:sp (vs++dvs) H Q E):wpAny (model X.prog X.w) X.A (call (.ref f) us) (EP X pins σ Q) X.xe s:=by
 have r2:Bt (vs++dvs) (us++ds):=r.append hd
 have hl:(us++ds).length=ps.length:=by rw[<-r2.length];exact F.len _ _ _ _ h
 refine wpAny_call (codeAny_mono (F.run X.A X.stack s H #[us,[]] (us++ds) (vs++dvs) Q E hr I.env0 (hb s us I.kIn hl) r2 h) fun r s' hq=>?_)
 cases r with
 |error e=>exact hx pins σ H s e s' I hq
 |ok fl =>
  cases fl with
  |ret u=>exact I.after hq
  |next=>exact False.elim hq
  |brk=>exact False.elim hq
  |cont=>exact False.elim hq
theorem Mo (F:Az X.prog X.w X.K X.mg X.base CX k f fd ps sp)(hr:Eh k X.A)(hg:Gl X x)(hm:X.mg x=some (.ref f))(hk:W.keepIn X.K (.ref f)=true)(hb:JE X.K fd ps ds)(hd:Bt dvs ds)(hx:OP CX X E)
 (ha:PA X (e::es) t)(hdb:(x==("__debug__":Str))=false:=by decide)(he:starEach (e::es) X.env=(false,eval e X.env)::starEach es X.env:=by rfl)(hpl:(backTo pos (starEach es X.env)).any (·.1)=false:=by rfl) :
 PE X (.Call (.Name x p) (e::es) [] pos) (Jd sp dvs E t):=by
 intro pins s σ H Q I h
 refine wpAny_Call_Name_kw (Hs I hg hm ?_ hdb)
 refine W.callWith_K (h₀:=X.base) I.ok.mod.kin hk (thn (ha pos pins s σ H _ I h) fun us s1 #[vs,H1,I1,r,q]=>#[I1.kIn,?_]) he hpl
 exact Ro F hr hb hd hx I1 r q
end
def PK (X:Cx)(kws:List Keyword)(t:TA):Prop :=
 ∀(pos:Pos)(pins:List (Addr×Obj))(s:Shared)(σ:St)(H:Hp)(Q:List V->Hp->Prop),Inv X pins σ H s->t σ H Q->wpAny (model X.prog X.w) X.A (evalAll ((backToKw pos (keywordEach kws X.env)).map (·.2))) (AP X pins σ Q) X.xe s
section
variable {X:Cx}{CX:CXT}{k:Nat}{f C:Addr}{fd:FuncData}{ps ks:List Str}{sp:Sp}{E:XK}{x m:Str}{p pos apos kpos:Pos}{e o:Expr}{es:List Expr}{kws:List Keyword}{te ta:TE}{t tk:TA}{nm:Option Str}
theorem SN:PK X [] GA:=fun _ _ _ _ H Q I h=>wpAny_evalAll_nil #[[],H,I,.nil,h]
theorem Px (ha:PE X e te)(hr:PK X kws t):PK X (#[nm,e,kpos]::kws) (AY te t):=by
 intro pos pins s σ H Q I h
 show wpAny _ _ (evalAll ((do let v <-eval e X.env;standAt pos;pure v)::(backToKw pos (keywordEach kws X.env)).map (·.2))) _ _ s
 refine wpAny_evalAll_cons (wpAny_bind (thn (ha pins s σ H _ I h) fun u s1 #[x,H1,I1,r1,q1]=>wpAny_bind (wpAny_standAt (wpAny_pure ?_))))
 exact thn (hr pos pins s1 σ H1 _ I1 q1) fun us s2 #[xs,H2,I2,r2,q2]=>#[x::xs,H2,I2,.cons r1 r2,q2]
variable {g:List Value->List Value->List Value}{gV:List V->List V->List V}
end
structure Ae (N P:List Str)(sc:Scope):Prop where
 kind:sc.kind=.function
 co:sc.isCoroutine=false
 gen:sc.isGenerator=false
 nd:N.Nodup
 pre:N.take P.length=P
 par:∀x∈P,sc.names.lookup x=some .local\/sc.names.lookup x=some .cell
 nofree:∀y∈sc.names,y.2≠.free
theorem IZ {kindOf:Str->Option NameKind}{x:Str}:∀{binds:List (Str×Value)}{m:Str->Option Value},(∀v,(x,v)∉binds)->bindL kindOf binds m x=m x
 |[],_,_=>rfl
 |(n,v)::r,m,h=>by
  unfold bindL
  rw[IZ fun w hw=>h w (qAH _ hw)]
  split
  .have:x≠n:=by rintro rfl;exact h v qAO
   simp[this]
  .rfl
theorem Iz {kindOf:Str->Option NameKind}{x:Str}:∀{binds:List (Str×Value)}{m:Str->Option Value},(∀v,(x,v)∉binds)->bindC kindOf binds m x=m x
 |[],_,_=>rfl
 |(n,v)::r,m,h=>by
  unfold bindC
  rw[Iz fun w hw=>h w (qAH _ hw)]
  split
  .rfl
  .have:x≠n:=by rintro rfl;exact h v qAO
   simp[this]
theorem IJ {kindOf:Str->Option NameKind}{x:Str}{v:Value}:∀{P:List Str}{vs:List Value}{i:Nat}{m:Str->Option Value},P.Nodup->P[i]? = some x->vs[i]? = some v->kindOf x=some .local ->
 bindL kindOf (P.zip vs) m x=some v
 |[],_,_,_,_,h,_,_=>by simp at h
 |_::_,[],_,_,_,_,h,_=>by simp at h
 |p::P,w::vs,0,m,nd,h1,h2,hk=>by
  simp at h1 h2;subst h1;subst h2
  show bindL kindOf ((p,w)::P.zip vs) m p=_
  unfold bindL
  rw[IZ fun v hv=>(qBl.mp nd).1 (qB8 hv).1,if_pos hk]
  simp
 |p::P,w::vs,i+1,m,nd,h1,h2,hk=>by
  show bindL kindOf ((p,w)::P.zip vs) m x=_
  unfold bindL
  exact IJ (i:=i) (qBl.mp nd).2 (by simpa using h1) (by simpa using h2) hk
theorem IQ {kindOf:Str->Option NameKind}{x:Str}{v:Value}:∀{P:List Str}{vs:List Value}{i:Nat}{m:Str->Option Value},P.Nodup->P[i]? = some x->vs[i]? = some v->kindOf x≠some .local ->
 bindC kindOf (P.zip vs) m x=some v
 |[],_,_,_,_,h,_,_=>by simp at h
 |_::_,[],_,_,_,_,h,_=>by simp at h
 |p::P,w::vs,0,m,nd,h1,h2,hk=>by
  simp at h1 h2;subst h1;subst h2
  show bindC kindOf ((p,w)::P.zip vs) m p=_
  unfold bindC
  rw[Iz fun v hv=>(qBl.mp nd).1 (qB8 hv).1,if_neg hk]
  simp
 |p::P,w::vs,i+1,m,nd,h1,h2,hk=>by
  show bindC kindOf ((p,w)::P.zip vs) m x=_
  unfold bindC
  exact IQ (i:=i) (qBl.mp nd).2 (by simpa using h1) (by simpa using h2) hk
def start (N:List Str)(vs:List V):St:=vs.map some++List.replicate (N.length-vs.length) none
def JB (CX:CXT)(P:Program)(w:World)(K:W.Frag)(mg:Str->Option Value)(base:Heap)(N:List Str)(qual:Str)(scope:Scope)(f:Addr)(cd:Value)(A:Around)(outer:List Env)(s:Shared)(H:Hp)(E:XK):Cx where
 prog:=P
 w:=w
 K:=K
 mg:=mg
 base:=base
 A:=A.deeper (envOfC qual scope s.heap.objs.size f cd)
 N:=N
 s₀:=s
 H₀:=H
 env:=envOfC qual scope s.heap.objs.size f cd
 outer:=outer
 stack:=envOfC qual scope s.heap.objs.size f cd::outer
 ex:=[]
 calm:=true
 fn:=fun _=>true
 pn:=[]
 xe:=fun e s'=>wpAny (model P w) (A.deeper (envOfC qual scope s.heap.objs.size f cd)) (leaving (envOfC qual scope s.heap.objs.size f cd) e) (fun _ s''=>CX outer H s E e s'') (fun e' s''=>CX outer H s E e' s'') s'
theorem Kj {sc:Scope}{n:Nat}{x:Str}(h:sc.names.lookup x=some .cell):∃c,(cellsFrom n sc.names []).lookup x=some c:=by
 have q:=qBX sc.names n [] (.inl h)
 exact qCt.mp q
theorem Io {CX:CXT}{P:Program}{w:World}{K:W.Frag}{mg:Str->Option Value}{base:Heap}{N ps:List Str}{qual:Str}{scope:Scope}{f:Addr}{cd:Value}{A:Around}{outer:List Env}{s s1:Shared}{H:Hp}{E:XK}{us:List Value}{vs:List V}
 (S:Ae N ps scope) (hd:A.handled=none) (e0:QA P w K mg base A outer s H) (hl:vs.length=ps.length) (r:Bt vs us)
 (x:InCallC s s.heap.objs.size (bindL (envOfC qual scope s.heap.objs.size f cd).kindOf (ps.zip us) fun _=>none) (cellsFrom (s.heap.objs.size+1) scope.names []) (bindC (envOfC qual scope s.heap.objs.size f cd).kindOf (ps.zip us) fun _=>none) s1) :
 Inv (JB CX P w K mg base N qual scope f cd A outer s H E) [] (start N vs) H s1:=by
 have hpl:ps.length<=N.length:=by have:=congrArg List.length S.pre;rw[qAT] at this;omega
 obtain⟨h1,tk,rfl,hk⟩:=x.done
 have noA:∀b:Addr,b∉(JB CX P w K mg base N qual scope f cd A outer s H E).ex:=fun b z=>absurd (show b∈([]:List Addr) from z) (by simp)
 refine#[#[e0.mod,S.kind,rfl,rfl,qAd _,fun y z c h1 h2=>?_,fun y hy=>?_,fun y c _ h=>?_,fun _=>hd,Around.frames_deeper e0.frames,.inr #[rfl,rfl],fun b z=>absurd z (noA b),e0.bs,e0.bsz,fun b _ _=>noA b,fun b z=>absurd z (noA b),e0.funs,e0.frf,e0.tb],
  rfl,e0.bare,Un.kept hk,#[_,x.toInCall.ns,fun i y v h1 h2 h3=>?_],fun y c h=>#[_,x.cell y c h],e0.hok.fresh (qAd _),fun y c h=>?_,fun p hp=>absurd (show p∈([]:List (Addr×Obj)) from hp) (by simp),e0.hok.kept hk,?_]
 .exact name_of_addr x.apart (PySem.mem_of_lookup h1) (PySem.mem_of_lookup h2)
 .have hy:scope.names.lookup y=some .cell\/scope.names.lookup y=some .free:=hy
  rcases hy with hy|hy
  .exact Kj hy
  .exact absurd rfl (S.nofree _ (PySem.mem_of_lookup hy))
 .exact qBq (x.above y c (PySem.mem_of_lookup h))
 .have hi:i<vs.length:=by
   unfold start at h2
   by_cases hi:i<vs.length
   .exact hi
   .rw[qAK (by simpa using hi)] at h2
    rw[qCz] at h2
    split at h2<;>cases h2
  have ha:vs[i]? = some v:=by
   unfold start at h2
   rw[qAI (by simpa using hi),qAh] at h2
   cases e:vs[i]? with
   |none=>rw[e] at h2;cases h2
   |some a=>rw[e] at h2;cases h2;rfl
  obtain⟨u,hu,rv⟩:=r.get ha
  have hp:ps[i]? = some y:=by
   rw[<-S.pre,List.getElem?_take_of_lt ()];exact h1
  have ndP:ps.Nodup:=by rw[<-S.pre];exact S.nd.sublist (List.take_sublist _ _)
  refine#[u,rv,?_]
  rcases S.par y (qAo hp) with k|k
  .exact .inl #[k,IJ ndP hp hu k]
  .obtain⟨c,e⟩:=Kj (n:=s.heap.objs.size+1) k
   refine .inr #[.inl k,c,e,?_]
   have q:=x.cell y c e
   rw[IQ ndP hp hu (by show scope.names.lookup y≠_;rw[k];decide)] at q
   exact q
 .exact e0.hok.fresh (qBq (x.above y c (PySem.mem_of_lookup h)))
 .unfold start
  show _=N.length
  rw[qAn,qAa,List.length_replicate]
  omega
theorem QU {CX:CXT}{P:Program}{w:World}{K:W.Frag}{mg:Str->Option Value}{base:Heap}{k:Nat}{f:Addr}{name qual:Str}{params:Arguments}{body:List Stmt}{scope:Scope}{dV kV doc pm cdv ct oc:Value}{an od:Option Addr}
 {osl:Array (Option Value)}{N ps:List Str}{sp:Sp}(lk:K.lookup f=some #[oc,od,.func (W.fnOf name qual params body scope dV kV doc pm an cdv ct),osl]) (hcd:W.codeIn K cdv qual=true) (S:Ae N ps scope)
 (len:∀vs H Q E,sp vs H Q E->vs.length=ps.length)
 (hbody:∀(A:Around)(outer:List Env)(s:Shared)(H:Hp)(vs:List V)(Q:VK)(E:XK),Eh k (A.deeper (envOfC qual scope s.heap.objs.size f cdv))->sp vs H Q E ->
  ∃t,PSs (JB CX P w K mg base N qual scope f cdv A outer s H E) body t/\t { nx:=fun _ H'=>Q .non H',rt:=Q } (start N vs) H) :
 Az P w K mg base CX (k+1) f (W.fnOf name qual params body scope dV kV doc pm an cdv ct) ps sp:=by
 refine#[len,fun A outer s H args us vs Q E hr e0 hb r hsp=>?_]
 have hl:=len _ _ _ _ hsp
 have KX:K.In s.heap:=e0.mod.kin.keeps fun b o e=>(e0.bs b o e).1
 have lim:s.heap.NoLimit:=e0.mod.nolimit.keeps fun b o e=>(e0.bs b o e).1
 have hkind:∀y∈ps.zip us,scope.names.lookup y.1=some .local\/(scope.names.lookup y.1=some .cell/\((cellsFrom (s.heap.objs.size+1) scope.names []).lookup y.1).isSome=true):=fun#[n,v] hy=>by
  rcases S.par n (qB8 hy).1 with q|q
  .exact .inl q
  .exact .inr #[q,qBX _ _ _ (.inl q)]
 refine codeAny_call_function hr.depth (KX _ _ lk) rfl S.co S.gen rfl (W.codeRec_of KX hcd) (hb _ _ _ _ ?_)
 refine wpAny_newFunctionEnv_cells S.kind hkind fun env he s1 x=>?_
 subst he
 refine#[lim.keeps x.toInCall.keep,codeAny_func ?_]
 obtain⟨t,ht,hq⟩:=hbody A outer s H vs Q E (hr.deeper _) hsp
 have I:Inv (JB CX P w K mg base N qual scope f cdv A outer s H E) [] (start N vs) H s1:=Io S hr.hd e0 hl r x
 refine wpAny_mono (ht [] s1 (start N vs) H _ I hq) (fun fl s' hs=>?_) fun e s' hs=>hs
 have fin:∀{σ':St}{H':Hp}{v:V}{u:Value},Inv (JB CX P w K mg base N qual scope f cdv A outer s H E) [] σ' H' s'->BF v u->Q v H'->CE outer P w H s Q u s' :=
  fun {σ' H' v u} J rv q=>#[v,H',J.os,J.bare,J.base,J.hok,rv,q]
 cases fl with
 |ret u =>
  obtain⟨v,σ',H',J,rv,q⟩:=hs
  exact fin J rv q
 |next =>
  obtain⟨σ',H',J,q⟩:=hs
  exact fin (v:=V.non) (u:=Value.none) J rfl q
 |brk =>
  obtain⟨_,_,_,q⟩:=hs
  exact False.elim q
 |cont =>
  obtain⟨_,_,_,q⟩:=hs
  exact False.elim q
section
variable {X:Cx}{x:Str}{p pos:Pos}{e:Expr}{es:List Expr}{t:TA}{id T:String}{r:List V->Hp->VK->Prop}
def tCB (r:List V->Hp->VK->Prop)(t:TA):TE:=fun σ H Q=>t σ H fun vs H1=>r vs H1 Q
theorem HM (hc:FN X (.builtin id) r)(hg:Gl X x)(hm:X.mg x=none)(hv:bootBuiltins x=some (.builtin id))(ha:PA X (e::es) t)(hn:x≠"__name__":=by decide)(hdb:(x==("__debug__":Str))=false:=by decide)
 (he:starEach (e::es) X.env=(false,eval e X.env)::starEach es X.env:=by rfl)(hpl:(backTo pos (starEach es X.env)).any (·.1)=false:=by rfl):PE X (.Call (.Name x p) (e::es) [] pos) (tCB r t):=by
 intro pins s σ H Q I h
 refine wpAny_Call_Name_kw (FG I hg hm hv ?_ hn hdb)
 exact PyProof.Rows.callWith_builtin1 (thn (ha pos pins s σ H _ I h) fun us s1 #[vs,H1,I1,r1,q1]=>hc pins s1 σ H1 vs us Q I1 r1 q1) he hpl
theorem Co (hc:FN X (.type T) r)(hg:Gl X x)(hm:X.mg x=none)(hv:bootBuiltins x=some (.type T))(ha:PA X (e::es) t)(hn:x≠"__name__":=by decide)(hdb:(x==("__debug__":Str))=false:=by decide)
 (he:starEach (e::es) X.env=(false,eval e X.env)::starEach es X.env:=by rfl)(hpl:(backTo pos (starEach es X.env)).any (·.1)=false:=by rfl):PE X (.Call (.Name x p) (e::es) [] pos) (tCB r t):=by
 intro pins s σ H Q I h
 refine wpAny_Call_Name_kw (FG I hg hm hv ?_ hn hdb)
 exact qA9 (thn (ha pos pins s σ H _ I h) fun us s1 #[vs,H1,I1,r1,q1]=>hc pins s1 σ H1 vs us Q I1 r1 q1) he hpl
end
end L2
namespace HT
open PySem PyProof.Rows
section
open PySem.SeqAt
open PySem.AutoSeq1 (wpAny_loadPart')
open PySem.MeetsSeq PySem.MeetsSeq2 PySem.MeetsSeq3
end
section
variable {prog:Program}{w:World}{A:Around}{E:Value->Shared->Prop}{s:Shared}
theorem cat_tup {t b:Addr}{vs ws:List Value}{Q:Value->Shared->Prop}(ht:IsTup s.heap t vs.toArray) (hb:IsTup s.heap b ws.toArray) (hv:vs≠[])
 (h1:ws=[]->Q (.ref t) s) (h2:ws≠[]->Q (.ref s.heap.objs.size) { s with heap:=s.heap.push { cls:=.type "tuple",data:=.seq (vs++ws).toArray } })
 (hsz:vs.length+ws.length<=sizeLine):wpAny (model prog w) A (binaryOp .Add (.ref t) (.ref b)) Q E s:=by
 obtain⟨⟨cls,dd,data,sl⟩,ho,hc,n,hd⟩:=id ht
 obtain⟨⟨cls2,dd2,data2,sl2⟩,ho2,hc2,n2,hd2⟩:=id hb
 simp only at hc hd hc2 hd2
 subst hc hd hc2 hd2
 have e:vs.toArray++ws.toArray=(vs++ws).toArray:=by simp
 by_cases hw:ws=[]
 .exact concat_meets #[_,ho,rfl] #[_,ho2,rfl] noFill_tuple_add seq_tuple_add qCE qCA (qCu _ _)
   (tuple_addW1 t b vs.toArray ws.toArray n n2 dd dd2 sl sl2 (by simpa using hv) (by simp[hw])) #[ho,ho2,h1 hw]
 .refine concat_meets #[_,ho,rfl] #[_,ho2,rfl] noFill_tuple_add seq_tuple_add qCE qCA (qCu _ _)
   (tuple_addW2 t b vs.toArray ws.toArray n n2 dd dd2 sl sl2 (by simpa using hv) (by simpa using hw) (by rw[qAs,qAs];exact hsz)) #[ho,ho2,?_]
  rw[e]
  exact h2 hw
def sIx (n d:Nat):Option Int->Nat
 |none=>d
 |some v=>if v<0 then (v+(n:Int)).toNat else min v.toNat n
theorem sIx_none (n d:Nat):sIx n d none=d:=rfl
theorem sIx_nat (n d k:Nat):sIx n d (some (k:Int))=min k n:=by
 show(if (k:Int)<0 then ((k:Int)+(n:Int)).toNat else min (k:Int).toNat n)=min k n
 rw[if_neg (),qA8]
theorem SK (n d:Nat)(hd:d<=n)(o:Option Int):sIx n d o<=n:=by
 cases o with
 |none=>exact hd
 |some v =>
  show(if v<0 then (v+(n:Int)).toNat else min v.toNat n)<=n
  by_cases hv:v<0
  .rw[if_pos hv];omega
  .rw[if_neg hv];exact Nat.min_le_right _ _
theorem LY (v:Int)(n d:Nat):(if v<0 then max (v+(n:Int)) 0 else min v (n:Int))=((sIx n d (some v):Nat):Int):=by
 show(if v<0 then max (v+(n:Int)) 0 else min v (n:Int))=(((if v<0 then (v+(n:Int)).toNat else min v.toNat n):Nat):Int)
 by_cases hv:v<0
 .simp only[if_pos hv];omega
 .simp only[if_neg hv];omega
theorem La (lo hi:Option Int)(n:Nat):Builtin.Slice.sliceAdjust lo hi 1 (n:Int)=(((sIx n 0 lo:Nat):Int),((sIx n n hi:Nat):Int)):=by
 have h1:¬((1:Int)<0):=()
 unfold Builtin.Slice.sliceAdjust
 simp only[h1,if_false]
 refine Prod.ext ?_ ?_
 .cases lo with
  |none=>rfl
  |some v=>exact LY v n 0
 .cases hi with
  |none=>rfl
  |some v=>exact LY v n n
theorem Lk (i j:Nat):Builtin.Slice.slicePlaces (i:Int) (j:Int) 1=j-i:=by
 unfold Builtin.Slice.slicePlaces
 have h1:(1:Int)>0:=()
 simp only[h1,if_true,Int.ediv_one]
 split<;>omega
theorem G1 {v:Value}{o:Option Int}{Q:Option Int->Shared->Prop}(p:IsPart v o) (h:Q o s):wpAny (model prog w) A (Builtin.Slice.slicePartIndex v) Q E s:=by
 cases p with
 |none=>exact slicePart_none h
 |int i t=>exact slicePart_int h
theorem FK {sl:Addr}{vl vu:Value}{lo hi:Option Int}{n:Nat}{Q:Int×Int×Nat->Shared->Prop}(hs:s.heap.IsSliceOf sl vl vu .none) (pl:IsPart vl lo) (pu:IsPart vu hi)
 (h:Q (((sIx n 0 lo:Nat):Int),1,sIx n n hi-sIx n 0 lo) s):wpAny (model prog w) A (Builtin.Slice.sliceApplied (.ref sl) (pure (n:Int))) Q E s:=by
 obtain⟨os,hos,hcs,hds⟩:=id hs
 unfold Builtin.Slice.sliceApplied Builtin.Slice.sliceFields
 refine wpAny_bind (wpAny_bind (wpAny_field hos hds (x:=vl) rfl (wpAny_bind (wpAny_field hos hds (x:=vu) rfl (wpAny_bind (wpAny_field hos hds (x:=.none) rfl (wpAny_pure ?_)))))))
 refine wpAny_bind (slicePart_none ?_)
 show wpAny _ _ (if ((1:Int)==0)=true then _ else _) _ _ s
 rw[if_neg ∅]
 refine wpAny_bind (G1 pl (wpAny_bind (G1 pu (wpAny_bind (wpAny_pure ?_)))))
 show wpAny _ _ (match Builtin.Slice.sliceAdjust lo hi 1 (n:Int) with|(lo,hi)=>pure (lo,(1:Int),Builtin.Slice.slicePlaces lo hi 1)) _ _ s
 rw[La lo hi n]
 show wpAny _ _ (pure (((sIx n 0 lo:Nat):Int),(1:Int),Builtin.Slice.slicePlaces ((sIx n 0 lo:Nat):Int) ((sIx n n hi:Nat):Int) 1)) _ _ s
 rw[Lk]
 exact wpAny_pure h
theorem Om (xs:Array Value)(i k:Nat):((List.range k).filterMap fun(m:Nat)=>xs[((i:Int)+(m:Int)*1).toNat]?).toArray=((xs.toList.drop i).take k).toArray:=by
 have e:(fun(m:Nat)=>xs[((i:Int)+(m:Int)*1).toNat]?)=fun m=>xs[i+m]? := by
  funext m
  have:((i:Int)+(m:Int)*1).toNat=i+m:=()
  rw[this]
 rw[e]
 have:=pick_run xs i k
 rw[qBO] at this
 have e2:((fun x=>xs[x]?) ∘ fun x=>i+x)=fun m=>xs[i+m]? := rfl
 rw[e2] at this
 rw[this]
theorem getItem_tuple_cut {t sl:Addr}{items:Array Value}{vl vu:Value}{lo hi:Option Int}{Q:Value->Shared->Prop}(ht:IsTup s.heap t items) (hs:s.heap.IsSliceOf sl vl vu .none) (pl:IsPart vl lo) (pu:IsPart vu hi)
 (hw:¬(sIx items.size 0 lo=0/\sIx items.size items.size hi=items.size))
 (h:Q (.ref s.heap.objs.size) { s with heap:=s.heap.push { cls:=.type "tuple",data:=.seq ((items.toList.drop (sIx items.size 0 lo)).take (sIx items.size items.size hi-sIx items.size 0 lo)).toArray } })
 (hsz:items.size<=sizeLine):wpAny (model prog w) A (getItem (.ref t) (.ref sl)) Q E s:=by
 have htake:sizeOk (.seq ((items.toList.drop (sIx items.size 0 lo)).take (sIx items.size items.size hi-sIx items.size 0 lo)).toArray):=by
  show((items.toList.drop (sIx items.size 0 lo)).take (sIx items.size items.size hi-sIx items.size 0 lo)).toArray.size<=sizeLine
  rw[qAs,qAT,qAQ,Array.length_toList]
  omega
 have hj:sIx items.size items.size hi<=items.size:=SK _ _ (qAd _) hi
 obtain⟨os,hos,hcs,hds⟩:=id hs
 have hTs:s.TypeIs (.ref sl) "slice":=#[os,hos,hcs]
 unfold getItem
 try with_reducible refine wpAny_holding ?_
 first|refine wpAny_bind (wpAny_pure ?_)|skip
 refine wpAny_bind (wpAny_sequenceKey ht.typeIs ∅ ?_)
 refine wpAny_bind (wpAny_callSpecial?_slot (name:=Str.ofString "__getitem__") ht.typeIs qB7
  (wpAny_call_entry qB7 ht.typeIs entry_tuple_getitem ?_ (args_tuple_getitem _ _)))
 show wpAny _ _ (Builtin.Tuple.tupleItemsOf (.ref t) >>= _) _ _ s
 refine wpAny_bind (tupleItemsOf_ ht ?_)
 refine wpAny_bind (wpAny_typeOf hTs ?_)
 rw[if_pos ∅]
 refine wpAny_bind (FK hs pl pu ?_)
 have hno:¬((((sIx items.size 0 lo:Nat):Int)==0&&(1:Int)==1&&(sIx items.size items.size hi-sIx items.size 0 lo)==items.size)=true):=by
  intro q
  rw[qA2,qA2] at q
  have q1:((sIx items.size 0 lo:Nat):Int)=0:=eq_of_beq q.1.1
  have q2:sIx items.size items.size hi-sIx items.size 0 lo=items.size:=eq_of_beq q.2
  exact hw #[(),()]
 show wpAny _ _ (if (((sIx items.size 0 lo:Nat):Int)==0&&(1:Int)==1&&(sIx items.size items.size hi-sIx items.size 0 lo)==items.size)=true then _ else _) _ _ s
 rw[if_neg hno,Om]
 first
  |exact wpAny_bind (m:=Builtin.Tuple.tupleExact _) (wpAny_newObj_type (wpAny_pure #[_,rfl,wpAny_pure h]) htake)
  |exact wpAny_bind (m:=Builtin.Tuple.tupleExact _) (wpAny_newObj_type (wpAny_bind (wpAny_pure (wpAny_pure #[_,rfl,wpAny_pure h]))) htake)
  |exact wpAny_bind (wpAny_bind (m:=Builtin.Tuple.tupleExact _) (wpAny_newObj_type (wpAny_pure (wpAny_pure #[_,rfl,wpAny_pure h])) htake))
  |exact wpAny_bind (wpAny_bind (m:=Builtin.Tuple.tupleExact _) (wpAny_newObj_type (wpAny_pure #[_,rfl,wpAny_pure h]) htake))
end
end HT
namespace L2
open PySem PySem.Spec PyProof.Rows
abbrev TO:=St->Hp->(Option Int->Hp->Prop)->Prop
def PO (X:Cx)(e:Option Expr)(t:TO):Prop :=
 ∀(pins:List (Addr×Obj))(s:Shared)(σ:St)(H:Hp)(Q:Option Int->Hp->Prop),Inv X pins σ H s->t σ H Q ->
  wpAny (model X.prog X.w) X.A (evalPart e X.env) (fun u s'=>∃o H',Inv X pins σ H' s'/\IsPart u o/\Q o H') X.xe s
def QH:TO:=fun _ H Q=>Q none H
def Tp (t:TE):TO:=fun σ H Q=>t σ H fun x H1=>∃i,x=.int i/\Q (some i) H1
section
variable {X:Cx}{e:Expr}{te:TE}{lo hi:Option Expr}{tl th:TO}{pos p2:Pos}
theorem Qu:PO X none QH:=by
 intro pins s σ H Q I h
 rw[evalPart_none]
 exact wpAny_pure #[none,H,I,.none,h]
theorem QS (h:PE X e te):PO X (some e) (Tp te):=by
 intro pins s σ H Q I hw
 rw[evalPart_some]
 refine thn (h pins s σ H _ I hw) fun u s1 hh=>?_
 obtain⟨x,H1,I1,r1,q1⟩:=hh
 obtain⟨i,rfl,q⟩:=q1
 obtain⟨t,rfl⟩:=r1
 exact#[some i,H1,I1,.int i t,q]
def SlR (X:Cx)(r:V->Option Int->Option Int->Hp->VK->Prop):Prop :=
 ∀(pins:List (Addr×Obj))(s:Shared)(σ:St)(H:Hp)(x:V)(v vl vu:Value)(lo hi:Option Int)(sl:Addr)(Q:VK),Inv X pins σ H s->BF x v->s.heap.IsSliceOf sl vl vu .none->IsPart vl lo->IsPart vu hi->r x lo hi H Q ->
  ∃T id,typeLookup (.type T) "__getitem__"=pure (some (.builtin id))/\s.TypeIs v T/\wpAny (model X.prog X.w) X.A (getItem v (.ref sl)) (EP X pins σ Q) X.xe s
theorem SlR.or {r r':V->Option Int->Option Int->Hp->VK->Prop}(h:SlR X r) (h':SlR X r'):SlR X (fun x lo hi H Q=>r x lo hi H Q\/r' x lo hi H Q):=by
 intro pins s σ H x v vl vu lo hi sl Q I rx hs pl pu q
 rcases q with q|q
 .exact h pins s σ H x v vl vu lo hi sl Q I rx hs pl pu q
 .exact h' pins s σ H x v vl vu lo hi sl Q I rx hs pl pu q
def tSl (r:V->Option Int->Option Int->Hp->VK->Prop)(te:TE)(tl th:TO):TE:=fun σ H Q=>te σ H fun x H1=>tl σ H1 fun l H2=>th σ H2 fun u H3=>r x l u H3 Q
theorem NJ {r:V->Option Int->Option Int->Hp->VK->Prop}(hr:SlR X r) (he:PE X e te) (hl:PO X lo tl) (hu:PO X hi th):PE X (.Subscript e (.Slice lo hi none p2) pos) (tSl r te tl th):=by
 intro pins s σ H Q I h
 refine Subscript_ (thn (he pins s σ H _ I h) fun v s1 hh=>?_)
 obtain⟨x,H1,I1,r1,q1⟩:=hh
 refine wpAny_Slice (thn (hl pins s1 σ H1 _ I1 q1) fun vl s2 #[l,H2,I2,pl,q2]=>thn (hu pins s2 σ H2 _ I2 q2) fun vu s3 hh=>?_)
 obtain⟨u,H3,I3,pu,q3⟩:=hh
 rw[evalPart_none]
 refine wpAny_pure ?_
 have I4:Inv X pins σ H3 { s3 with heap:=s3.heap.push { cls:=.type "slice",data:=.fields (List.toArray [vl,vu,.none]) } }:=I3.kept (t':=s3.toks) fun b ob q=>qAe _ q
 obtain⟨T,id,hT,ht,hg⟩:=hr pins { s3 with heap:=s3.heap.push { cls:=.type "slice",data:=.fields (List.toArray [vl,vu,.none]) } } σ H3 x v vl vu l u s3.heap.objs.size Q I4 r1 (Heap.IsSliceOf.new ..) pl pu q3
 show wpAny (model X.prog X.w) X.A (subscriptTail e (.Slice lo hi none p2) v (.ref s3.heap.objs.size)) (EP X pins σ Q) X.xe { s3 with heap:=s3.heap.push { cls:=.type "slice",data:=.fields (List.toArray [vl,vu,.none]) } }
 exact tail_any (ops:=[.ref s3.heap.objs.size,v]) ht hT hg (by with_unfolding_all rfl)
def Ly (xs:List V)(lo hi:Option Int):List V:=(xs.drop (HT.sIx xs.length 0 lo)).take (HT.sIx xs.length xs.length hi-HT.sIx xs.length 0 lo)
theorem Gm (xs:List V)(lo hi:Option Int):(Ly xs lo hi).length<=xs.length:=by
 unfold Ly
 rw[qAT,qAQ]
 omega
def Vc (K:W.Frag):V->Option Int->Option Int->Hp->VK->Prop:=fun x lo hi H Q=>∃a xs,x=.ref a/\SqT K H a xs /\
 ¬(HT.sIx xs.length 0 lo=0/\HT.sIx xs.length xs.length hi=xs.length)/\∀p,H p=none->Q (.ref p) (upd H p (.tup (Ly xs lo hi)))
theorem RI:SlR X (Vc X.K):=by
 intro pins s σ H x v vl vu lo hi sl Q I rx hs pl pu h
 obtain⟨a,xs,rfl,hx,hw,q⟩:=h
 cases rx
 obtain⟨its,r,ht,hz⟩:=I.tuple hx
 have hlen:its.toArray.size=xs.length:=by rw[qAs];exact r.length.symm
 refine#["tuple",_,PyProof.Rows.slot_tuple_getitem.lookup,ht.typeIs,?_]
 refine HT.getItem_tuple_cut ht hs pl pu (by rw[hlen];exact hw) ?_ (by rw[hlen];exact hz)
 rw[hlen]
 refine#[.ref s.heap.objs.size,_,I.laid (t':=s.toks) (o:=.tup (Ly xs lo hi)) (fun b ob q=>qAe _ q) (qAd _) ?_,rfl,q _ (I.hok.fresh (qAd _))]
 exact#[qAG (Gm xs lo hi) hz,_,(r.drop (HT.sIx xs.length 0 lo)).take (HT.sIx xs.length xs.length hi-HT.sIx xs.length 0 lo),IsTup.new _ _]
def TX (K:W.Frag):R2:=fun x y H Q=>∃a b xs ys,x=.ref a/\y=.ref b/\SqT K H a xs/\SqT K H b ys/\xs≠[]/\xs.length+ys.length<=sizeLine /\
 (ys=[]->Q (.ref a) H)/\(ys≠[]->∀p,H p=none->Q (.ref p) (upd H p (.tup (xs++ys))))
theorem Bt.nil_iff {xs:List V}{us:List Value}(r:Bt xs us):us=[] ↔ xs=[]:=by
 cases r with
 |nil=>simp
 |cons _ _=>simp
theorem P6:OpR X (binaryOp .Add) (TX X.K):=by
 intro pins s σ H x y v u Q I rx ry h
 obtain⟨a,b,xs,ys,rfl,rfl,ha,hb,hx,hz,q1,q2⟩:=h
 cases rx
 cases ry
 obtain⟨its,r1,p1,_⟩:=I.tuple ha
 obtain⟨its2,r2,p2,_⟩:=I.tuple hb
 refine HT.cat_tup p1 p2 (fun z=>hx (r1.nil_iff.mp z)) (fun z=>#[.ref a,H,I,rfl,q1 (r2.nil_iff.mp z)]) (fun z=>?_) (by rw[<-r1.length,<-r2.length];exact hz)
 refine#[.ref s.heap.objs.size,_,I.laid (t':=s.toks) (o:=.tup (xs++ys)) (fun b ob q=>qAe _ q) (qAd _) ?_,rfl,q2 (fun w=>z (r2.nil_iff.mpr w)) _ (I.hok.fresh (qAd _))]
 exact#[by rw[qAn];exact hz,_,r1.append r2,IsTup.new _ _]
end
def ixN (n:Nat)(i:Int):Option Nat:=if 0<=i then (if i<n then some i.toNat else none) else if -(n:Int)<=i then some (i+n).toNat else none
def atI {α:Type}(xs:List α) (i:Int):Option α:=(ixN xs.length i).bind fun j=>xs[j]?
theorem My {n:Nat}{i:Int}{j:Nat}(h:ixN n i=some j):seqIndex? i n=some j/\j<n/\-(n:Int)<=i/\i<n:=by
 unfold ixN at h
 by_cases h0:0<=i
 .rw[if_pos h0] at h
  by_cases h1:i<n
  .rw[if_pos h1] at h
   have e:i.toNat=j:=qAj h
   exact#[by rw[seqIndex_of h0 h1,e],(),(),h1]
  .rw[if_neg h1] at h;cases h
 .rw[if_neg h0] at h
  by_cases h1:-(n:Int)<=i
  .rw[if_pos h1] at h
   have e:(i+n).toNat=j:=qAj h
   exact#[by rw[seqIndex_neg () h1,e],(),h1,()]
  .rw[if_neg h1] at h;cases h
theorem MQ {α:Type}{xs:List α}{i:Int}{v:α}(h:atI xs i=some v):∃j,seqIndex? i xs.length=some j/\xs[j]? = some v/\j<xs.length/\-(xs.length:Int)<=i/\i<xs.length:=by
 unfold atI at h
 cases e:ixN xs.length i with
 |none=>rw[e] at h;cases h
 |some j =>
  rw[e] at h
  obtain⟨h1,h2,h3,h4⟩:=My e
  exact#[j,h1,h,h2,h3,h4]
theorem atI_nat {α:Type}{xs:List α}{j:Nat}{v:α}(h:xs[j]? = some v):atI xs (j:Int)=some v:=by
 have hj:j<xs.length:=(qAf.mp h).1
 have e:ixN xs.length (j:Int)=some j:=by
  unfold ixN
  rw[if_pos (),if_pos ()];simp
 unfold atI;rw[e];exact h
def LW (b:Expr):Prop:=∀o i,subscripted b false o i=operate [o,i] (getItem o i)
def IxR (X:Cx)(r:R2):Prop :=
 ∀(value slice:Expr)(pins:List (Addr×Obj))(s:Shared)(σ:St)(H:Hp)(x y:V)(v u:Value)(Q:VK),Inv X pins σ H s->BF x v->BF y u->r x y H Q ->
  subscripted slice false v u=operate [v,u] (getItem v u)->wpAny (model X.prog X.w) X.A (subscriptTail value slice v u) (EP X pins σ Q) X.xe s
def MtR (X:Cx)(id:String)(r:V->List V->Hp->VK->Prop):Prop :=
 ∀(pins:List (Addr×Obj))(s:Shared)(σ:St)(H:Hp)(x:V)(xs:List V)(v:Value)(us:List Value)(Q:VK),Inv X pins σ H s->BF x v->Bt xs us->r x xs H Q ->
  wpAny (model X.prog X.w) X.A (call (.builtin id) (v::us)) (EP X pins σ Q) X.xe s
section
variable {X:Cx}{a b:Expr}{ta tb:TE}{pos:Pos}
theorem IxR.or {r r':R2}(h:IxR X r) (h':IxR X r'):IxR X (fun x y H Q=>r x y H Q\/r' x y H Q):=by
 intro value slice pins s σ H x y v u Q I rx ry q hs
 rcases q with q|q
 .exact h value slice pins s σ H x y v u Q I rx ry q hs
 .exact h' value slice pins s σ H x y v u Q I rx ry q hs
theorem GG {r:R2}(hr:IxR X r) (ha:PE X a ta) (hb:PE X b tb) (hs:LW b):PE X (.Subscript a b pos) (tOp r ta tb):=by
 intro pins s σ H Q I h
 exact Subscript_ (T4 ha hb I h fun v u s2 x y H2 I2 rx ry q=>hr a b pins s2 σ H2 x y v u Q I2 rx ry q (hs _ _))
def Tb (K:W.Frag):R2:=fun x y H Q=>∃p xs i v,x=.ref p/\y=.int i/\SqL K H p xs/\atI xs i=some v/\Q v H
def Tf (K:W.Frag):R2:=fun x y H Q=>∃p xs i v,x=.ref p/\y=.int i/\SqT K H p xs/\atI xs i=some v/\Q v H
theorem CW:IxR X (Tb X.K):=by
 intro value slice pins s σ H x y v u Q I rx ry h hs
 obtain⟨p,xs,i,z,rfl,rfl,hq,he,q⟩:=h
 cases rx
 obtain⟨t,rfl⟩:=ry
 obtain⟨its,r,pl,hz⟩:=I.list hq
 obtain⟨j,h1,h2,h3,h4,h5⟩:=MQ he
 obtain⟨w,ew,rw'⟩:=r.get h2
 have hl:=r.length
 have hn:=Kb
 have fin:EP X pins σ Q w s:=#[z,H,I,rw',q]
 by_cases h0:0<=i
 .have hj:i.toNat=j:=by
   rw[seqIndex_of h0 h5] at h1
   exact qAj h1
  exact item_listR pl.isList h0 () (by rw[hj];simpa using ew) fin hs
 .have hj:(i+(its.toArray.size:Int)).toNat=j:=by
   rw[seqIndex_neg () h4] at h1
   rw[qAs,<-hl]
   exact qAj h1
  exact subscriptTail_builtinR (x:=w) pl.isList.typeIs slot_list_getitem.lookup
   (wpAny_getItem_list_neg (Q:=fun r s'=>r=w/\EP X pins σ Q r s') pl.isList () (by rw[qAs]<;>omega) () (by rw[hj];simpa using ew) #[rfl,fin]) hs
theorem Ek:IxR X (Tf X.K):=by
 intro value slice pins s σ H x y v u Q I rx ry h hs
 obtain⟨p,xs,i,z,rfl,rfl,hq,he,q⟩:=h
 cases rx
 obtain⟨t,rfl⟩:=ry
 obtain⟨its,r,pl,hz⟩:=I.tuple hq
 obtain⟨j,h1,h2,h3,h4,h5⟩:=MQ he
 obtain⟨w,ew,rw'⟩:=r.get h2
 have hl:=r.length
 have hn:=Kb
 have fin:EP X pins σ Q w s:=#[z,H,I,rw',q]
 exact subscriptTail_builtinR (x:=w) pl.typeIs slot_tuple_getitem.lookup
  (getItem_tuple (j:=j) (Q:=fun r s'=>r=w/\EP X pins σ Q r s') pl () () (by rw[qAs,<-hl];exact h1) (by simpa using ew) #[rfl,fin]) hs
theorem Lo (its:List Value)(n j:Nat)(u:Value):Obj.mapSeq (·.setIfInBounds j u) { cls:=.type "list",data:=.seq its.toArray n }={ cls:=.type "list",data:=.seq (its.set j u).toArray n }:=by
 simp[Obj.mapSeq]
theorem Inv.lst {pins:List (Addr×Obj)}{σ:St}{H:Hp}{s:Shared}{p:Addr}{xs:List V}(I:Inv X pins σ H s) (h:H p=some (.lst xs)) :
 ∃(its:List Value)(n:Nat),Bt xs its/\s.heap.get? p=some { cls:=.type "list",data:=.seq its.toArray n }/\xs.length<=sizeLine:=by
 obtain⟨z,its,n,r,e⟩:=I.hok p _ h
 exact#[its,n,r,e,z]
theorem Inv.lstUpd {pins:List (Addr×Obj)}{σ:St}{H:Hp}{s:Shared}{p:Addr}{xs ys:List V}{its its':List Value}{n n':Nat}{f:Obj->Obj}(I:Inv X pins σ H s) (h:H p=some (.lst xs))
 (ho:s.heap.get? p=some { cls:=.type "list",data:=.seq its.toArray n }) (hf:f { cls:=.type "list",data:=.seq its.toArray n }={ cls:=.type "list",data:=.seq its'.toArray n' }) (r:Bt ys its') (hz:ys.length<=sizeLine) (t:Nat) :
 Inv X pins σ (upd H p (.lst ys)) { s with heap:=s.heap.update p f,toks:=t }:=by
 have e:(s.heap.update p f).get? p=some { cls:=.type "list",data:=.seq its'.toArray n' }:=by
  rw[qCH f ho (by rw[hf]<;>rfl),hf]
 refine I.write (x:=p) (e:=p) (by rw[h];trivial) (.inl rfl) (fun b u hb q=>(qCF _ _ (Ne.symm hb)).trans q) #[_,e] ?_
 exact#[hz,its',n',r,e]
def Sq:V->V->V->Hp->(Hp->Prop)->Prop:=fun o i v H Q=>∃p xs k j,o=.ref p/\i=.int k/\H p=some (.lst xs)/\ixN xs.length k=some j/\Q (upd H p (.lst (xs.set j v)))
theorem KQ:UP X Sq:=by
 intro pins s σ H o i v ov iv u Q I ro ri rv h
 obtain⟨p,xs,k,j,rfl,rfl,hp,hj,q⟩:=h
 cases ro
 obtain⟨t,rfl⟩:=ri
 obtain⟨its,n,r,ho,hz⟩:=I.lst hp
 obtain⟨h1,h2,h3,h4⟩:=My hj
 have hl:=r.length
 have hn:=Kb
 have I':Inv X pins σ (upd H p (.lst (xs.set j v))) { s with heap:=s.heap.update p (Obj.mapSeq (·.setIfInBounds j u)) } :=
  I.lstUpd hp ho (Lo its n j u) (r.set rv j) (by rw[qB9];exact hz) s.toks
 by_cases h0:0<=k
 .have hk:k.toNat=j:=by
   rw[seqIndex_of h0 h4] at h1
   exact qAj h1
  exact W.ki_setAt ho h0 () (by rw[qAs,<-hl];exact h4) (by rw[hk];exact#[_,I',q])
 .have hk:(k+(its.toArray.size:Int)).toNat=j:=by
   rw[seqIndex_neg () h3] at h1
   rw[qAs,<-hl]
   exact qAj h1
  exact W.ki_setBack ho () (by rw[qAs,<-hl];exact h3) () (by rw[hk];exact#[_,I',q])
theorem IA (lo hi:Option Int)(n:Nat):(sliceBounds lo hi none n).1=((HT.sIx n 0 lo:Nat):Int)/\(sliceBounds lo hi none n).2.1=((HT.sIx n n hi:Nat):Int)/\(sliceBounds lo hi none n).2.2=1:=by
 refine#[?_,?_,rfl]
 .cases lo with
  |none=>simp[sliceBounds,HT.sIx]
  |some i =>
   simp only[sliceBounds,HT.sIx,Option.getD_none,show(1:Int)>0 from ∅,if_true]
   by_cases h:i<0
   .simp only[h,if_true]<;>omega
   .simp only[h,if_false]<;>omega
 .cases hi with
  |none=>simp[sliceBounds,HT.sIx]
  |some i =>
   simp only[sliceBounds,HT.sIx,Option.getD_none,show(1:Int)>0 from ∅,if_true]
   by_cases h:i<0
   .simp only[h,if_true]<;>omega
   .simp only[h,if_false]<;>omega
theorem Hb (its:List Value)(lo hi:Option Int):slicePick its.toArray lo hi none=((its.drop (HT.sIx its.length 0 lo)).take (HT.sIx its.length its.length hi-HT.sIx its.length 0 lo)).toArray:=by
 obtain⟨h1,h2,h3⟩:=IA lo hi its.toArray.size
 unfold slicePick
 rw[h1,h2,h3]
 simp only[sliceRange_one,pick_run,qAs]<;>rfl
def VH (K:W.Frag):V->Option Int->Option Int->Hp->VK->Prop:=fun x lo hi H Q=>∃a xs,x=.ref a/\SqL K H a xs/\∀p,H p=none->Q (.ref p) (upd H p (.lst (Ly xs lo hi)))
theorem P7:SlR X (VH X.K):=by
 intro pins s σ H x v vl vu lo hi sl Q I rx hs pl pu h
 obtain⟨a,xs,rfl,hx,q⟩:=h
 cases rx
 obtain⟨its,r,ht,hz⟩:=I.list hx
 have hlen:=r.length
 refine#["list",_,slot_list_getitem.lookup,ht.isList.typeIs,?_]
 refine wpAny_getItem_list_slice ht.isList hs pl pu .none (by simp) ?_ (by rw[qAs]<;>omega)
 rw[Hb,<-hlen]
 refine#[.ref s.heap.objs.size,_,I.laid (t':=s.toks) (o:=.lst (Ly xs lo hi)) (fun b ob q=>qAe _ q) (qAd _) ?_,rfl,q _ (I.hok.fresh (qAd _))]
 exact#[qAG (Gm xs lo hi) hz,_,0,(r.drop (HT.sIx xs.length 0 lo)).take (HT.sIx xs.length xs.length hi-HT.sIx xs.length 0 lo),qAA _ rfl]
def flatV:V->Bool
 |.non=>true
 |.bl _=>true
 |.int _=>true
 |.str _=>true
 |_=>false
def eqV:V->V->Bool
 |.non,.non=>true
 |.bl a,.bl b=>a==b
 |.bl a,.int b=>(if a then 1 else 0)==b
 |.int a,.bl b=>a==(if b then 1 else 0)
 |.int a,.int b=>a==b
 |.str a,.str b=>a==b
 |_,_=>false
theorem OW {A:Around}{s:Shared}{y x:V}{u v:Value}(ry:BF y u) (rx:BF x v) (fy:flatV y=true) (fx:flatV x=true):SeqAt.EqAt A s u v (eqV y x):=by
 cases y with
 |non =>
  cases ry
  cases x with
  |non=>cases rx;exact SeqAt.EqAt.same _
  |bl b=>cases rx;exact SeqAt.EqAt.none_bool b
  |int b=>obtain⟨t,rfl⟩:=rx;exact SeqAt.EqAt.none_int b t
  |str b=>obtain⟨t,rfl⟩:=rx;exact SeqAt.EqAt.none_str b t
  |_=>exact absurd (show false=true from fx) qAm
 |bl a =>
  cases ry
  cases x with
  |non=>cases rx;exact SeqAt.EqAt.bool_none a
  |bl b=>cases rx;exact SeqAt.EqAt.bool_bool a b
  |int b=>obtain⟨t,rfl⟩:=rx;exact SeqAt.EqAt.bool_int a b t
  |str b=>obtain⟨t,rfl⟩:=rx;exact SeqAt.EqAt.bool_str a b t
  |_=>exact absurd (show false=true from fx) qAm
 |int a =>
  obtain⟨t',rfl⟩:=ry
  cases x with
  |non=>cases rx;exact SeqAt.EqAt.int_none a t'
  |bl b=>cases rx;exact SeqAt.EqAt.int_bool a t' b
  |int b=>obtain⟨t,rfl⟩:=rx;exact SeqAt.EqAt.int_int a t' b t
  |str b=>obtain⟨t,rfl⟩:=rx;exact SeqAt.EqAt.int_str a t' b t
  |_=>exact absurd (show false=true from fx) qAm
 |str a =>
  obtain⟨t',rfl⟩:=ry
  cases x with
  |non=>cases rx;exact SeqAt.EqAt.str_none a t'
  |bl b=>cases rx;exact SeqAt.EqAt.str_bool a t' b
  |int b=>obtain⟨t,rfl⟩:=rx;exact SeqAt.EqAt.str_int a t' b t
  |str b=>obtain⟨t,rfl⟩:=rx;exact SeqAt.EqAt.str_str a t' b t
  |_=>exact absurd (show false=true from fx) qAm
 |_=>exact absurd (show false=true from fy) qAm
theorem IE:FN X (.builtin "len") (fun xs H Q=>∃p ys,xs=[.ref p]/\(SqL X.K H p ys\/SqT X.K H p ys)/\Q (.int ys.length) H):=by
 intro pins s σ H xs us Q I r h
 obtain⟨p,ys,rfl,hq,q⟩:=h
 obtain⟨u,rfl,rx⟩:=Hf r
 cases rx
 have hn:=Kb
 rcases hq with hq|hq
 .obtain⟨its,r',pl,hz⟩:=I.list hq
  have hlen:=r'.length
  exact Calls.call_len_list pl.isList (by simp only[qAs]<;>omega) #[.int ys.length,H,I.tok _,#[s.toks+1,by rw[qAs,hlen]],q]
 .obtain⟨its,r',pl,hz⟩:=I.tuple hq
  have hlen:=r'.length
  exact len_tuple pl (by simp only[qAs]<;>omega) #[.int ys.length,H,I.tok _,#[s.toks+1,by rw[qAs,hlen]],q]
theorem BZ:FN X (.type "list") (fun xs H Q=>∃p ys,xs=[.ref p]/\(SqL X.K H p ys\/SqT X.K H p ys)/\∀l,H l=none->Q (.ref l) (upd H l (.lst ys))):=by
 intro pins s σ H xs us Q I r h
 obtain⟨p,ys,rfl,hq,q⟩:=h
 obtain⟨u,rfl,rx⟩:=Hf r
 cases rx
 have fin:∀(its:List Value),Bt ys its->ys.length<=sizeLine->∀(h':Heap)(c':Nat),(∀b o',s.heap.get? b=some o'->h'.get? b=some o') ->
  h'.get? s.heap.objs.size=some { cls:=.type "list",dict:=none,data:=.seq its.toArray c',slots:=(List.toArray []) }->EP X pins σ Q (.ref s.heap.objs.size) { s with heap:=h' }:=fun its r' hz h' c' kp e =>
  #[.ref s.heap.objs.size,_,I.laid (t':=s.toks) kp (qAd _) (show Ca X.prog X.w _ h' _ (.lst ys) from #[hz,its,c',r',e]),rfl,q _ (I.hok.fresh (qAd _))]
 rcases hq with hq|hq
 .obtain⟨its,r',pl,hz⟩:=I.list hq
  have hlen:=r'.length
  obtain⟨o,ho,hc,n,hd⟩:=pl.isList
  exact call_list_seq p (.inl rfl) ho hc hd (fun h' c' kp e=>fin its r' hz h' c' kp e) (by simp only[qAs]<;>omega)
 .obtain⟨its,r',pl,hz⟩:=I.tuple hq
  have hlen:=r'.length
  obtain⟨o,ho,hc,n,hd⟩:=pl
  exact call_list_seq p (.inr rfl) ho hc hd (fun h' c' kp e=>fin its r' hz h' c' kp e) (by simp only[qAs]<;>omega)
theorem HE:FN X (.type "tuple") (fun xs H Q=>∃p ys,xs=[.ref p]/\((SqL X.K H p ys/\∀l,H l=none->Q (.ref l) (upd H l (.tup ys)))\/(SqT X.K H p ys/\Q (.ref p) H))):=by
 intro pins s σ H xs us Q I r h
 obtain⟨p,ys,rfl,h⟩:=h
 obtain⟨u,rfl,rx⟩:=Hf r
 cases rx
 rcases h with⟨hq,q⟩|⟨hq,q⟩
 .obtain⟨its,r',pl,hz⟩:=I.list hq
  have hlen:=r'.length
  refine call_tuple_list pl.isList (fun h' kp=>?_) (by simp only[qAs]<;>omega)
  have I1:Inv X pins σ H { s with heap:=h' }:=I.kept (t':=s.toks) kp
  have I2:Inv X pins σ (upd H h'.objs.size (.tup ys)) { s with heap:=h'.push { cls:=.type "tuple",data:=.seq its.toArray } } :=
   I1.laid (t':=s.toks) (fun b o e=>qAe _ e) (qAd _) (show Ca X.prog X.w _ _ _ (.tup ys) from #[hz,its,r',IsTup.new _ _])
  exact#[.ref h'.objs.size,_,I2,rfl,q _ (I1.hok.fresh (qAd _))]
 .obtain⟨its,r',pl,hz⟩:=I.tuple hq
  exact call_tuple_same pl #[.ref p,H,I,rfl,q]
def tyV (K:W.Frag)(T:String)(x:V)(H:Hp):Prop:=match x with
 |.str _=>T="str"
 |.int _=>T="int"
 |.ref p=>(T="list"/\∃xs,SqL K H p xs)\/(T="tuple"/\∃o,K.lookup p=some o/\o.cls=.type "tuple"/\o.dict=none) \/
  (T="dict"/\((∃kvs,H p=some (.dK kvs))\/∃kvs,H p=some (.dT kvs)))\/(T="set"/\∃S n,H p=some (.set S n))
 |_=>False
theorem Rb {pins:List (Addr×Obj)}{σ:St}{H:Hp}{s:Shared}{T:String}{x:V}{v:Value}(I:Inv X pins σ H s) (r:BF x v) (ty:tyV X.K T x H) :
 s.TypeIs v T/\∀a,v=.ref a->∃ob,s.heap.get? a=some ob/\ob.dict=none:=by
 cases x with
 |str z =>
  obtain⟨t,rfl⟩:=r
  cases (show T="str" from ty)
  exact#[typeIs_str s z t,fun _ e=>nomatch e]
 |int i =>
  obtain⟨t,rfl⟩:=r
  cases (show T="int" from ty)
  exact#[typeIs_int s i t,fun _ e=>nomatch e]
 |ref p =>
  cases r
  rcases ty with⟨rfl,xs,hq⟩|⟨rfl,o,hk,hc,hd⟩|⟨rfl,hk⟩|⟨rfl,S,n,hk⟩
  .obtain⟨its,_,pl,_⟩:=I.list hq
   refine#[pl.isList.typeIs,fun a e=>?_]
   cases e
   obtain⟨o,n,e,c,hd,_⟩:=pl
   exact#[o,e,hd]
  .refine#[#[o,I.kIn p o hk,hc],fun a e=>?_]
   cases e
   exact#[o,I.kIn _ o hk,hd]
  .have z:∃o,s.heap.get? p=some o/\o.ExactDict:=by
    rcases hk with⟨kvs,hk⟩|⟨kvs,hk⟩
    .obtain⟨_,_,_,_,o,_,_,e,ex,_⟩:=I.hok p _ hk
     exact#[o,e,ex]
    .obtain⟨_,_,_,_,o,_,_,e,ex,_⟩:=I.hok p _ hk
     exact#[o,e,ex]
   obtain⟨o,e,ex⟩:=z
   refine#[#[o,e,ex.1],fun a e2=>?_]
   cases e2
   exact#[o,e,ex.2.1]
  .obtain⟨o,_,_,_,e,ex,_⟩:=I.hok p _ hk
   refine#[#[o,e,ex.1],fun a e2=>?_]
   cases e2
   exact#[o,e,ex.2.1]
 |_=>exact False.elim ty
def tBM (K:W.Frag)(T:String)(r:V->List V->Hp->VK->Prop)(to:TE)(t:TA):TE:=fun σ H Q=>to σ H fun x H1=>tyV K T x H1/\t σ H1 fun xs H2=>r x xs H2 Q
variable {o e:Expr}{es:List Expr}{to:TE}{t:TA}{name:Str}{apos cpos:Pos}{T id:String}{r:V->List V->Hp->VK->Prop}
theorem DR (pa:PlainAttrs T)(slot:Slot T name id)(hty:typeOf (.builtin id)=pure (.type "method_descriptor"))(hm:MtR X id r)(ho:PE X o to)(ha:PA X (e::es) t)
 (hbase:attributeBase o name X.env (eval o X.env)=eval o X.env:=by rfl)
 (hfew:((backTo cpos (starEach (e::es) X.env)).all (fun x=>!x.1)&&(backToKw cpos (keywordEach [] X.env)).all (fun x=>x.1.isSome)
  && decide ((e::es).length+([]:List Keyword).length+(if ([]:List Keyword).isEmpty then 0 else 1)<30))=true:=by rfl)
 (hline:(apos.endLine==cpos.line)=true:=by rfl) (hs:starEach (e::es) X.env=(false,eval e X.env)::starEach es X.env:=by rfl) (hplain:(backTo cpos (starEach es X.env)).any (·.1)=false:=by rfl) :
 PE X (.Call (.Attribute o name apos) (e::es) [] cpos) (tBM X.K T r to t):=by
 intro pins s σ H Q I h
 refine wpAny_Call_method_late hbase hfew hline rfl (thn (ho pins s σ H _ I h) fun v s1 hh=>?_)
 obtain⟨x,H1,I1,r1,ty,q1⟩:=hh
 obtain⟨h1,h2⟩:=Rb I1 r1 ty
 refine#[T,id,pa,slot,hty,h1,h2,?_]
 have hA:=ha cpos pins s1 σ H1 _ I1 q1
 rw[hs] at hA ⊢
 refine Calls.callWith_builtin (by show(false||(backTo cpos (starEach es X.env)).any (·.1))=false;rw[hplain]<;>rfl) (Calls.evalArgs_plain ?_)
 exact thn hA fun us s2 #[vs,H2,I2,r2,q2]=>hm pins s2 σ H2 x vs v us Q I2 r1 r2 q2
end
def MtM (X:Cx)(id:String)(r:V->List V->Hp->VK->Prop):Prop :=
 ∀(pins:List (Addr×Obj))(s:Shared)(σ:St)(H:Hp)(x:V)(xs:List V)(v:Value)(us:List Value)(Q:VK),Inv X pins σ H s->BF x v->Bt xs us->r x xs H Q ->
  wpAny (model X.prog X.w) X.A (call (.builtin id) (v::us)) (EP X pins σ Q) X.xe s
theorem Bt.one:∀{x:V}{us:List Value},Bt [x] us->∃u,us=[u]/\BF x u
 |_,_,.cons r .nil=>#[_,rfl,r]
theorem Bt.two:∀{x y:V}{us:List Value},Bt [x,y] us->∃u v,us=[u,v]/\BF x u/\BF y v
 |_,_,_,.cons r (.cons q .nil)=>#[_,_,rfl,r,q]
section
variable {X:Cx}{pins:List (Addr×Obj)}{σ:St}{H:Hp}{s:Shared}{l b:Addr}{xs ys zs:List V}
theorem Inv.lset {its its':List Value}{n:Nat}{f:Array Value->Array Value}{t':Nat}(I:Inv X pins σ H s) (hH:H l=some (.lst xs))
 (e:s.heap.get? l=some { cls:=.type "list",data:=.seq its.toArray n }) (hf:f its.toArray=its'.toArray) (hv:Bt ys its') (hz:ys.length<=sizeLine) :
 Inv X pins σ (upd H l (.lst ys)) { s with heap:=s.heap.update l (Obj.mapSeq f),toks:=t' }:=by
 have q:=PySem.IsL.update e f
 rw[hf] at q
 refine I.write (x:=l) (e:=l) (by rw[hH];exact trivial) (.inl rfl) (fun b' u hb hu=>(qCF s.heap (Obj.mapSeq f) (Ne.symm hb)).trans hu) #[_,q] ?_
 exact#[hz,its',_,hv,q]
theorem Inv.lnew {its:List Value}{t':Nat}(I:Inv X pins σ H s) (hv:Bt ys its) (hz:ys.length<=sizeLine) :
 Inv X pins σ (upd H s.heap.objs.size (.lst ys)) { s with heap:=s.heap.push { cls:=.type "list",data:=.seq its.toArray },toks:=t' } :=
 I.laid (fun _ _ q=>qAe _ q) (qAd _) #[hz,its,0,hv,qAA _ rfl]
theorem Inv.fresh (I:Inv X pins σ H s):H s.heap.objs.size=none:=I.hok.fresh (qAd _)
theorem Inv.lstM (I:Inv X pins σ H s)(hH:H l=some (.lst xs)):xs.length<=sizeLine/\∃(its:List Value)(n:Nat),Bt xs its/\xs.length=its.length/\s.heap.get? l=some { cls:=.type "list",data:=.seq its.toArray n }:=by
 obtain⟨z,its,n,r,e⟩:=I.hok l _ hH
 exact#[z,its,n,r,r.length,e]
end
section
variable {X:Cx}
def Fl:V->List V->Hp->VK->Prop:=fun x vs H Q=>∃l xs y,x=.ref l/\vs=[y]/\H l=some (.lst xs)/\xs.length<sizeLine/\Q .non (upd H l (.lst (xs++[y])))
theorem AB:MtM X "list.append" Fl:=by
 intro pins s σ H x vs v us Q I rx rv h
 obtain⟨l,xs,y,rfl,rfl,hH,hz,q⟩:=h
 cases rx
 obtain⟨u,rfl,ru⟩:=rv.one
 obtain⟨z,its,n,r,hl,e⟩:=I.lstM hH
 refine call_meets F.slot_list_append #[_,e,rfl] F.entry_list_append (F.args_list_append_2 _ _) (PySem.list_append l its.toArray n u (by rw[qAs];omega)) #[e,?_]
 refine#[.non,_,I.lset (its':=its++[u]) hH e (by simp) (r.append (.cons ru .nil)) ?_,rfl,q]
 rw[qAn,List.length_singleton]
 omega
def Vu:R2:=fun x y H Q=>∃l b xs zs,x=.ref l/\y=.ref b/\H l=some (.lst xs)/\H b=some (.lst zs)/\xs.length+zs.length<=sizeLine/\∀p,H p=none->Q (.ref p) (upd H p (.lst (xs++zs)))
theorem Sd:OpR X (binaryOp .Add) Vu:=by
 intro pins s σ H x y v u Q I rx ry h
 obtain⟨l,b,xs,zs,rfl,rfl,hH,hB,hz,q⟩:=h
 cases rx
 cases ry
 obtain⟨z,its,n,r,hl,e⟩:=I.lstM hH
 obtain⟨z2,its2,n2,r2,hl2,e2⟩:=I.lstM hB
 refine PySem.P.add_list e e2 ?_ (by rw[qAs,qAs];omega)
 have ea:its.toArray++its2.toArray=(its++its2).toArray:=by simp
 rw[ea]
 exact#[.ref _,_,I.lnew (t':=s.toks) (r.append r2) (by rw[qAn];omega),rfl,q _ I.fresh]
end
section
variable {prog:Program}{w:World}{A:Around}{E:Value->Shared->Prop}{s:Shared}
end
section
variable {X:Cx}
end
end L2
namespace Att
open PySem PySem.W PySem.Calls PyProof.Rows
theorem F2 {P:Params}{h:Heap}:∀(ns:List Int)(vs:List Value),WellAll P h vs (ns.map WData.int)->IntsAre vs ns:=by
 intro ns
 induction ns with
 |nil =>
  intro vs w
  rw[List.map_nil] at w
  cases w
  exact .nil
 |cons n ns ih =>
  intro vs w
  rw[qB2] at w
  cases w with
  |cons a b =>
   cases a
   exact .cons _ _ (ih _ b)
theorem M7 {l:OpenLaw}{n:Nat}(hn:l.most=some n){P:Params}{h:Heap}{args:List WData}{vals:List Value}
 (hpre:l.row.toRowW.claim.pre args=true) (hwl:WellAll P h vals args) :
 ∃a vs ns,vals=[Value.ref a]/\args=[WData.list (ns.map WData.int)]/\h.get? a=some { cls:=.type "list",data:=.seq vs.toArray }/\IntsAre vs ns/\ns.length<=n:=by
 have hsh:WShape.hasAll [] args [.list .int]=true:=(pre_splitW hpre).1
 have hc:l.pre.holds [] { args:=args }=true:=(pre_splitW hpre).2
 obtain⟨d,r,rfl,h1,h2⟩:=hasAllW_cons hsh
 obtain rfl:=hasAllW_nil h2
 obtain⟨xs,rfl,h3⟩:=hasW_list h1
 obtain⟨ns,rfl⟩:=items_int h3
 have hlen:ns.length<=n:=by
  unfold OpenLaw.pre at hc
  have h4:(WTm.not (.lt (.lit (.int (n:Int))) (.len (.arg 0)))).holds [] { args:=[.list (ns.map .int)] }=true:=by
   have h4:=(holds_andW hc).1
   rw[hn] at h4
   exact h4
  have h5:=condW_of h4 (w_not (w_lt w_lit (w_len_list (w_arg rfl))))
  rw[qAa] at h5
  refine Nat.le_of_not_lt fun q=>?_
  have q':(n:Int)<((ns.length:Nat):Int):=()
  first
   |(rw[decide_eq_true q'] at h5;exact absurd h5 ∅)
   |(simp at h5;omega)
 cases hwl with
 |cons w1 w2 =>
  cases w2
  cases w1 with
  |list ho hall=>exact#[_,_,ns,rfl,rfl,ho,F2 ns _ hall,hlen]
theorem LQ (l:OpenLaw)(args:List WData):l.row.toRowW.claim.post args (.bool true) args=true :=
 postW_of (r:=l.row.toRowW) (X:=(true==true))
  (show WShape.has [] (.bool true) .bool=true by first|rfl|decide|simp[WShape.has,WShape.arms,WShape.armsAll])
  (show(WTm.eq .res (.lit (.bool true))).value [] { args:=args,res:=some (.bool true),after:=args }=some (.bool (true==true)) from w_eq_bool (w_res rfl) w_lit) rfl
theorem attach_call {l:OpenLaw}{n:Nat}{q:Program}{loose:List Str}{XP:(Str->Option Value)->Heap->Prop}{YP:World->Heap->Prop}{d:DefRec}
 (hn:l.most=some n) (hdf:d.params.defaults=[])
 (call:∀(w:World)(s₀ s₁:Shared)(mg mb:Str->Option Value)(fa:Addr)(o:Obj)(pm cd doc:Value)(a:Addr)(vs:List Value)(ns:List Int),
  Ground q loose [] XP w s₀ mg mb s₁.heap->YP w s₁.heap ->
  s₁.heap.get? fa=some o->o.data=.func (docDef d.name d.params d.body d.scope pm cd doc)->s₁.heap.CodeRec cd d.name->mg d.name=some (.ref fa) ->
  s₁.heap.get? a=some { cls:=.type "list",data:=.seq vs.toArray }->IntsAre vs ns->ns.length<=n->s₁.gens=(List.toArray []) ->
  codeAny (model l.prog w) callerA (.call (.ref fa) #[[.ref a],[]]) (fun r s'=>r=.ok (.ret (.bool true))/\OldK s₁.heap s'.heap/\s'.os=s₁.os/\AllBare s'.gens) s₁) :
 WalkO q loose XP YP l.row.toRowW d [] (fun f vs=>PySem.call f vs):=by
 intro w s₀ s₁ mg mb G Y fa o pm cd doc dV kV ho hd hcd hD hmg hg args vals as hpre hlay hrd hwl hlo
 obtain rfl:dV=.none:=Dflts.none hD hdf
 obtain rfl:kV=.none:=Dflts.noKw hD
 obtain⟨a,vs,ns,rfl,rfl,hobj,hints,hlen⟩:=M7 hn hpre hwl
 refine enter_call (codeAny_mono (call w s₀ s₁ mg mb fa o pm cd doc a vs ns G Y ho (fd_plain hd) hcd hmg hobj hints hlen hg) fun r s' hq=>?_)
 obtain⟨rfl,h2,h3,h4⟩:=hq
 exact#[.inl #[.bool true,.bool true,[],rfl,fun _=>rfl,.bool true,LQ l _,fun _=>#[List.Pairwise.nil,fun _ hm=>(nomatch hm)]],h2,h3,h4]
section
variable {prog:Program}{w:World}{A:Around}{E:Value->Shared->Prop}{s:Shared}{K:Frag}
end
end Att
namespace L2
open PySem PySem.Spec PyProof.Rows
theorem E6:∀{vs:List Value}{ns:List Int},IntsAre vs ns->Bt (ns.map V.int) vs
 |_,_,.nil=>.nil
 |_,_,.cons n t h=>.cons #[t,rfl] (E6 h)
abbrev CX0:CXT:=fun _ _ _ _ _ _=>False
structure Fun (K:W.Frag)(x qual:Str)(st:Stmt)(f:Addr)(fd:FuncData):Prop where
 ex:∃(oc:Value)(od:Option Addr)(kV doc pm:Value)(an:Option Addr)(cdv ct:Value)(osl:Array (Option Value)),
  fd=W.fnOf x qual (Er st) (B4 st) (Ac st) .none kV doc pm an cdv ct/\K.lookup f=some #[oc,od,.func fd,osl]/\W.codeIn K cdv qual=true
 kp:W.keepIn K (.ref f)=true
section
variable {P:Program}{w:World}{K:W.Frag}{mg:Str->Option Value}{base:Heap}
theorem Fun.ok {x qual:Str}{st:Stmt}{f:Addr}{fd:FuncData}{N ps:List Str}{k:Nat}{sp:Sp}(F:Fun K x qual st f fd) (S:Ae N ps (Ac st)) (len:∀vs H Q E,sp vs H Q E->vs.length=ps.length)
 (hbody:∀(cdv:Value)(A:Around)(outer:List Env)(s:Shared)(H:Hp)(vs:List V)(Q:VK)(E:XK),Eh k (A.deeper (envOfC qual (Ac st) s.heap.objs.size f cdv))->sp vs H Q E ->
  ∃t,PSs (JB CX0 P w K mg base N qual (Ac st) f cdv A outer s H E).nox (B4 st) t/\t { nx:=fun _ H'=>Q .non H',rt:=Q } (start N vs) H):Az P w K mg base CX0 (k+1) f fd ps sp:=by
 obtain⟨oc,od,kV,doc,pm,an,cdv,ct,osl,rfl,lk,hcd⟩:=F.ex
 refine QU lk hcd S len fun A outer s H vs Q E hr hsp=>?_
 obtain⟨t,h,q⟩:=hbody cdv A outer s H vs Q E hr hsp
 exact#[t,h.nox,q]
theorem Fun.binds {x qual:Str}{st:Stmt}{f:Addr}{fd:FuncData}{ps:List Str}(F:Fun K x qual st f fd)
 (h:∀(kV doc pm:Value)(an:Option Addr)(cdv ct:Value)(us:List Value),us.length=ps.length->bindArgs (W.fnOf x qual (Er st) (B4 st) (Ac st) .none kV doc pm an cdv ct) #[us,[]]=pure (ps.zip us)):JE K fd ps []:=by
 obtain⟨oc,od,kV,doc,pm,an,cdv,ct,osl,rfl,lk,hcd⟩:=F.ex
 exact .all (h kV doc pm an cdv ct)
theorem LM {x qual:Str}{st:Stmt}{f:Addr}{oc:Value}{od an:Option Addr}{osl:Array (Option Value)}{kV doc pm cdv ct:Value}(l:K.lookup f=some #[oc,od,.func (W.fnOf x qual (Er st) (B4 st) (Ac st) .none kV doc pm an cdv ct),osl])
 (c:W.codeIn K cdv qual=true) (k:W.keepIn K (.ref f)=true):Fun K x qual st f (W.fnOf x qual (Er st) (B4 st) (Ac st) .none kV doc pm an cdv ct):=#[#[oc,od,kV,doc,pm,an,cdv,ct,osl,rfl,l,c],k]
end
theorem MK {n:Nat}(h:n<=1000):n<sizeLine:=Nat.lt_of_le_of_lt h ∅
section
variable {X:Cx}
theorem pv (i:Nat){x:Str}{pos:Pos}(hN:X.N[i]? = some x:=by rfl) (hv:Vis X.env.scope x:=by first|exact Or.inl rfl|exact Or.inr (Or.inl rfl)|exact Or.inr (Or.inr rfl)) (hd:(x==("__debug__":Str))=false:=by decide)
 (hcd:(x==("__classdict__":Str))=false:=by decide):PE X (.Name x pos) (Dd i):=Q9 hN hv hd hcd
end
def AG (H H':Hp):Prop:=∀b o,H b=some o->H' b=some o
theorem AG.refl (H:Hp):AG H H:=fun _ _ h=>h
theorem AG.trans {H H1 H2:Hp}(a:AG H H1) (b:AG H1 H2):AG H H2:=fun c o h=>b c o (a c o h)
theorem AG.free {H H':Hp}(e:AG H H'){l:Addr}(h:H' l=Option.none):H l=Option.none:=by
 cases q:H l with
 |none=>rfl
 |some o =>
  rw[e l o q] at h
  cases h
theorem AG.seq {K:W.Frag}{H H':Hp}{a:Addr}{xs:List V}(e:AG H H') (h:SqL K H a xs):SqL K H' a xs:=by
 rcases h with (h|⟨o,h⟩)|h
 .exact .inl (.inl (e _ _ h))
 .exact .inl (.inr #[o,e _ _ h])
 .exact .inr h
end L2
set_option maxHeartbeats 4000000
namespace CH
def g (a b:Int):Int:=(Int.gcd a b:Int)
theorem So {a b:Int}(h:b≠0):0<g a b:=by
 have:=Int.gcd_pos_of_ne_zero_right a h
 unfold g;omega
theorem O3 {x y:Int}(hy:0<y):g y (x%y)=g x y:=by
 unfold g
 have e:x%y=x-y*(x/y):=Int.emod_def x y
 rw[e,Int.gcd_sub_mul_left_right,Int.gcd_comm]
theorem RY {x:Int}(hx:0<=x):g x 0=x:=by
 unfold g;rw[Int.gcd_zero];omega
theorem RL (a b:Int):g (if a<0 then -a else a) (if b<0 then -b else b)=g a b:=by
 unfold g
 split<;>split<;>simp
theorem M8 (a b:Int):g a b ∣ a:=Int.gcd_dvd_left a b
theorem Md (a b:Int):g a b ∣ b:=Int.gcd_dvd_right a b
def cm (a b:Int):Int:=if b<0 then -(g a b) else g a b
theorem GX {a c:Int}(h:c ∣ a) (hc:c≠0):Int.fdiv a c*c=a:=by
 obtain⟨k,rfl⟩:=h
 rw[Int.mul_comm c k,qCd _ hc]
theorem F5 {a b:Int}(hb:b≠0):Int.fdiv a (cm a b)=(Rat.divInt a b).num/\Int.fdiv b (cm a b)=((Rat.divInt a b).den:Int):=by
 have hg:=So (a:=a) hb
 have d1:=M8 a b
 have d2:=Md a b
 rw[Rat.num_divInt,Rat.den_divInt,if_neg hb]
 have eg:((b.gcd a:Nat):Int)=g a b:=by unfold g;rw[Int.gcd_comm]
 rw[Int.natCast_ediv,eg]
 unfold cm
 split
 .rename_i h
  rw[Int.sign_eq_neg_one_of_neg h]
  have e1:(-1*a)/g a b=Int.fdiv a (-(g a b)):=by
   obtain⟨k,hk⟩:=d1
   have:-1*a=(-k)*g a b:=⋯
   rw[this,Int.mul_ediv_cancel _ ()]
   have:a=(-k)*(-(g a b)):=⋯
   have q:=qCd (-k) (show -(g a b)≠0 from ())
   rw[<-this] at q
   exact q.symm
  have e2:((b.natAbs:Nat):Int)/g a b=Int.fdiv b (-(g a b)):=by
   obtain⟨k,hk⟩:=d2
   have hn:((b.natAbs:Nat):Int)=-b:=()
   rw[hn]
   have:-b=(-k)*g a b:=⋯
   rw[this,Int.mul_ediv_cancel _ ()]
   have:b=(-k)*(-(g a b)):=⋯
   have q:=qCd (-k) (show -(g a b)≠0 from ())
   rw[<-this] at q
   exact q.symm
  exact#[e1.symm,e2.symm]
 .rename_i h
  have hp:0<b:=()
  rw[Int.sign_eq_one_of_pos hp,Int.one_mul]
  have hn:((b.natAbs:Nat):Int)=b:=()
  rw[hn,qBd _ (),qBd _ ()]
  exact#[rfl,rfl]
theorem Lu {a b:Int}(hb:b≠0):cm a b≠0:=by
 have:=So (a:=a) hb
 unfold cm;split<;>omega
theorem den_pos (q:Rat):1<=(q.den:Int):=by have:=q.den_pos;omega
theorem EG (q:Rat):(q.num:Rat)=q*q.den:=by
 have h:=qCi q
 rw[qAE] at h
 have hd:((q.den:Int):Rat)≠0:=by
  have:=q.den_nz
  simp[this]
 have e:((q.den:Int):Rat)=(q.den:Rat):=rfl
 rw[e] at h hd
 grind
theorem den_ne (q:Rat):(q.den:Rat)≠0:=by have:=q.den_nz;simp[this]
theorem lt_iff (p q:Rat):p.num*(q.den:Int)<q.num*(p.den:Int) ↔ p<q:=(Rat.lt_iff p q).symm
theorem MG (p q:Rat):Rat.divInt (p.num*q.den+q.num*p.den) ((p.den:Int)*q.den)=p+q:=by
 rw[qAE,qBm,qAl,qAl,qAl,EG p,EG q]
 have h1:=den_ne p
 have h2:=den_ne q
 have e1:((p.den:Int):Rat)=(p.den:Rat):=rfl
 have e2:((q.den:Int):Rat)=(q.den:Rat):=rfl
 rw[e1,e2]
 grind
theorem J5 (p q:Rat):Rat.divInt (p.num*q.den-q.num*p.den) ((p.den:Int)*q.den)=p-q:=by
 rw[qAE,qBg,qAl,qAl,qAl,EG p,EG q]
 have h1:=den_ne p
 have h2:=den_ne q
 have e1:((p.den:Int):Rat)=(p.den:Rat):=rfl
 have e2:((q.den:Int):Rat)=(q.den:Rat):=rfl
 rw[e1,e2]
 grind
theorem JX (p q:Rat):Rat.divInt (p.num*q.num) ((p.den:Int)*q.den)=p*q:=by
 rw[qAE,qAl,qAl,EG p,EG q]
 have h1:=den_ne p
 have h2:=den_ne q
 have e1:((p.den:Int):Rat)=(p.den:Rat):=rfl
 have e2:((q.den:Int):Rat)=(q.den:Rat):=rfl
 rw[e1,e2]
 grind
theorem MO (p q:Rat)(hq:q≠0):Rat.divInt (p.num*q.den) ((p.den:Int)*q.num)=p/q:=by
 rw[qAE,qAl,qAl,EG p,EG q]
 have h1:=den_ne p
 have h2:=den_ne q
 have e1:((p.den:Int):Rat)=(p.den:Rat):=rfl
 have e2:((q.den:Int):Rat)=(q.den:Rat):=rfl
 rw[e1,e2]
 grind
def Sz (k:Nat)(q:Rat):Prop:=q.num.natAbs<2^k/\q.den<2^k
theorem MW {k m:Nat}(h:k<=m):2^k<=2^m:=qBE ∅ h
theorem Sz.mono {k m:Nat}{q:Rat}(h:Sz k q) (hk:k<=m):Sz m q:=#[qAq h.1 (MW hk),qAq h.2 (MW hk)]
theorem EJ {a c x:Int}(h:x*c=a) (hc:c≠0):x.natAbs<=a.natAbs:=by
 rw[<-h,qCe]
 exact Nat.le_mul_of_pos_right _ ()
theorem C8 {a b:Int}{k:Nat}(hb:b≠0) (h1:a.natAbs<2^k) (h2:b.natAbs<2^k):Sz k (Rat.divInt a b):=by
 have p:=F5 (a:=a) hb
 have d1:cm a b ∣ a:=by
  unfold cm;split
  .exact Int.neg_dvd.mpr (M8 a b)
  .exact M8 a b
 have d2:cm a b ∣ b:=by
  unfold cm;split
  .exact Int.neg_dvd.mpr (Md a b)
  .exact Md a b
 have e1:=EJ (GX d1 (Lu hb)) (Lu hb)
 have e2:=EJ (GX d2 (Lu hb)) (Lu hb)
 rw[p.1] at e1
 rw[p.2] at e2
 have e3:(((Rat.divInt a b).den:Int)).natAbs=(Rat.divInt a b).den:=Int.natAbs_natCast _
 rw[e3] at e2
 exact#[(),()]
theorem Ay {a b:Int}{k m:Nat}(h1:a.natAbs<2^k) (h2:b.natAbs<2^m):(a*b).natAbs<2^(k+m):=by
 rw[qCe,Nat.pow_add]
 exact Nat.mul_lt_mul'' h1 h2
theorem MM {a b:Int}{k:Nat}(h1:a.natAbs<2^k) (h2:b.natAbs<2^k):(a+b).natAbs<2^(k+1):=by
 rw[qBb]
 generalize 2^k=p at *
 omega
theorem IK {a b:Int}{k:Nat}(h1:a.natAbs<2^k) (h2:b.natAbs<2^k):(a-b).natAbs<2^(k+1):=by
 rw[qBb]
 generalize 2^k=p at *
 omega
theorem Av {k:Nat}{q:Rat}(h:Sz k q):((q.den:Int)).natAbs<2^k:=by rw[Int.natAbs_natCast];exact h.2
theorem Lc (p q:Rat):(p.den:Int)*(q.den:Int)≠0:=by
 have h1:=den_pos p
 have h2:=den_pos q
 exact qA1 () ()
theorem AJ {k m:Nat}{x:Nat}(h:x<2^k) (e:k<=m):x<2^m:=qAq h (MW e)
theorem Sz.add {k m:Nat}{p q:Rat}(hp:Sz k p) (hq:Sz m q):Sz (k+m+1) (p+q):=by
 rw[<-MG]
 have a1:=Ay hp.1 (Av hq)
 have a2:=Ay hq.1 (Av hp)
 have a3:=Ay (Av hp) (Av hq)
 rw[qCv m k] at a2
 exact C8 (Lc p q) (MM a1 a2) (AJ a3 (qBJ _))
theorem Sz.sub {k m:Nat}{p q:Rat}(hp:Sz k p) (hq:Sz m q):Sz (k+m+1) (p-q):=by
 rw[<-J5]
 have a1:=Ay hp.1 (Av hq)
 have a2:=Ay hq.1 (Av hp)
 have a3:=Ay (Av hp) (Av hq)
 rw[qCv m k] at a2
 exact C8 (Lc p q) (IK a1 a2) (AJ a3 (qBJ _))
theorem Sz.mul {k m:Nat}{p q:Rat}(hp:Sz k p) (hq:Sz m q):Sz (k+m) (p*q):=by
 rw[<-JX]
 exact C8 (Lc p q) (Ay hp.1 hq.1) (Ay (Av hp) (Av hq))
theorem Sz.zero:Sz 1 0:=#[∅,∅]
theorem Sz.den_ne {k:Nat}{p q:Rat}(hq:q≠0):(p.den:Int)*q.num≠0:=by
 have h1:=den_pos p
 have h2:q.num≠0:=fun z=>hq (Rat.num_eq_zero.mp z)
 exact qA1 () h2
theorem Sz.div {k m:Nat}{p q:Rat}(hp:Sz k p) (hq:Sz m q) (h0:q≠0):Sz (k+m) (p/q):=by
 rw[<-MO p q h0]
 exact C8 (Sz.den_ne (k:=0) h0) (Ay hp.1 (Av hq)) (Ay (Av hp) hq.1)
end CH
namespace L3
open PySem PySem.Spec PyProof.Rows L2
abbrev St:=L2.St
def Kr:Expr->Bool
 |.Starred .. => true
 |_=>false
theorem Ct {e:Expr}{es:List Expr}{env:Env}(h:Kr e=false):starEach (e::es) env=(false,eval e env)::starEach es env:=by
 cases e<;>first|rfl|cases h
theorem DM {pos:Pos}{env:Env}:∀{es:List Expr},es.all (fun e=>!Kr e)=true->(backTo pos (starEach es env)).any (·.1)=false
 |[],_=>rfl
 |e::es,h=>by
  rw[List.all_cons,qA2] at h
  have h1:Kr e=false:=by
   cases q:Kr e with
   |false=>rfl
   |true=>rw[q] at h;exact absurd h.1 ∅
  rw[Ct h1]
  show(false||(backTo pos (starEach es env)).any (·.1))=false
  rw[DM h.2]
  rfl
inductive D where
 |non|bl (b:Bool)|int (i:Int)|str (x:Str)|ty (n:String)|tup (xs:List D)|lst (xs:List D)|ref (a:Addr)
inductive S where
 |d (x:D)|l (xs:List D)|r (xs:List D)
def S.isL:S->Bool
 |.d _=>false
 |_=>true
def S.share:S->S
 |.l xs=>.r xs
 |s=>s
def S.own:S->Bool
 |.l _=>true
 |_=>false
inductive Is (K:W.Frag)(H:Hp):V->D->Prop where
 |non:Is K H .non .non
 |bl (b:Bool):Is K H (.bl b) (.bl b)
 |int (i:Int):Is K H (.int i) (.int i)
 |str (x:Str):Is K H (.str x) (.str x)
 |ty (n:String):Is K H (.ty n) (.ty n)
 |ref (a:Addr):Is K H (.ref a) (.ref a)
 |tup {a:Addr}{vs:List V}{xs:List D}(h:SqT K H a vs) (hl:vs.length=xs.length) (r:∀(i:Nat)(v:V)(x:D),vs[i]? = some v->xs[i]? = some x->Is K H v x):Is K H (.ref a) (.tup xs)
 |lst {a:Addr}{vs:List V}{xs:List D}(h:H a=some (.lst vs)) (hl:vs.length=xs.length) (r:∀(i:Nat)(v:V)(x:D),vs[i]? = some v->xs[i]? = some x->Is K H v x):Is K H (.ref a) (.lst xs)
def Iss (K:W.Frag)(H:Hp)(vs:List V)(xs:List D):Prop :=
 vs.length=xs.length/\∀(i:Nat)(v:V)(x:D),vs[i]? = some v->xs[i]? = some x->Is K H v x
structure HZ where
 h:Hp
 z:Hp
structure Ext (p q:HZ):Prop where
 hh:AG p.h q.h
 zz:AG p.z q.z
 sub:AG q.z q.h
 new:∀a o,q.z a=some o->p.z a=some o\/p.h a=none
theorem Ext.refl {p:HZ}(h:AG p.z p.h):Ext p p:=#[AG.refl _,AG.refl _,h,fun _ _ e=>.inl e]
theorem Ext.trans {p q r:HZ}(a:Ext p q) (b:Ext q r):Ext p r:=#[a.hh.trans b.hh,a.zz.trans b.zz,b.sub,fun c o e=>by
 rcases b.new c o e with e|e
 .exact a.new c o e
 .exact .inr (a.hh.free e)]
theorem Ext.grow {H H' z:Hp}(h:AG z H) (e:AG H H'):Ext #[H,z] #[H',z]:=#[e,AG.refl _,h.trans e,fun _ _ e=>.inl e]
theorem Bz {H:Hp}{p:Addr}(h:H p=none) (o:HO):AG H (upd H p o):=fun b u q=>by rw[Af (As q h)];exact q
theorem Ext.freeze {p q:HZ}{a:Addr}{o:HO}(e:Ext p q) (n:p.h a=none) (nz:q.z a=none) (h:q.h a=some o):Ext p #[q.h,upd q.z a o]:=by
 refine#[e.hh,e.zz.trans (Bz nz o),fun b u hb=>?_,fun b u hb=>?_]
 .by_cases z:b=a
  .subst z
   have hb':upd q.z b o b=some u:=hb
   rw[Aj] at hb'
   cases hb'
   exact h
  .have hb':upd q.z a o b=some u:=hb
   rw[Af z] at hb'
   exact e.sub b u hb'
 .by_cases z:b=a
  .subst z;exact .inr n
  .have hb':upd q.z a o b=some u:=hb
   rw[Af z] at hb'
   exact e.new b u hb'
theorem Ext.own {H z:Hp}{a:Addr}(h:AG z H) (n:H a=none) (o:HO):Ext #[H,z] #[upd H a o,z]:=Ext.grow h (Bz n o)
theorem Ext.lay {H z:Hp}{a:Addr}(h:AG z H) (n:H a=none) (o:HO):Ext #[H,z] #[upd H a o,upd z a o] :=
 (Ext.own h n o).freeze n (h.free n) Aj
def IsS (K:W.Frag)(p:HZ)(v:V):S->Prop
 |.d x=>Is K p.z v x
 |.l xs=>∃a vs,v=.ref a/\p.h a=some (.lst vs)/\Iss K p.z vs xs
 |.r xs=>∃a vs,v=.ref a/\SqL K p.h a vs/\Iss K p.z vs xs
section
variable {K:W.Frag}{H H':Hp}{p q:HZ}{a:Addr}{v:V}{x:D}{vs:List V}{xs:List D}
theorem SqT.same (e:AG H H')(h:SqT K H a vs):SqT K H' a vs:=by
 rcases h with (h|⟨o,h⟩)|h
 .exact .inl (.inl (e _ _ h))
 .exact .inl (.inr #[o,e _ _ h])
 .exact .inr h
theorem Is.mono (e:AG H H')(h:Is K H v x):Is K H' v x:=by
 induction h with
 |non=>exact .non
 |bl b=>exact .bl b
 |int i=>exact .int i
 |str y=>exact .str y
 |ty n=>exact .ty n
 |ref a=>exact .ref a
 |tup h hl r ih=>exact .tup (SqT.same e h) hl ih
 |lst h hl r ih=>exact .lst (e _ _ h) hl ih
theorem Iss.mono (e:AG H H')(h:Iss K H vs xs):Iss K H' vs xs:=#[h.1,fun i v x h1 h2=>(h.2 i v x h1 h2).mono e]
theorem Iss.nil:Iss K H [] []:=#[rfl,fun i v x h=>by simp at h]
theorem Iss.snoc (t:Iss K H vs xs)(h:Is K H v x):Iss K H (vs++[v]) (xs++[x]):=by
 refine#[by simp[t.1],fun i w y h1 h2=>?_]
 by_cases hi:i<vs.length
 .rw[qAI hi] at h1
  rw[qAI (by have:=t.1;omega)] at h2
  exact t.2 i w y h1 h2
 .rw[qAK ()] at h1
  rw[qAK (by have:=t.1;omega)] at h2
  have e:i-vs.length=0:=by
   have:=(qAf.mp h1).1
   simp at this
   omega
  have e2:i-xs.length=0:=by have:=t.1;omega
  rw[e] at h1
  rw[e2] at h2
  simp at h1 h2
  subst h1;subst h2
  exact h
theorem IsS.mono {s:S}(e:Ext p q) (h:IsS K p v s):IsS K q v s:=by
 cases s with
 |d x=>exact Is.mono e.zz h
 |l xs =>
  obtain⟨a,vs,e1,h1,h2⟩:=h
  exact#[a,vs,e1,e.hh _ _ h1,h2.mono e.zz]
 |r xs =>
  obtain⟨a,vs,e1,h1,h2⟩:=h
  exact#[a,vs,e1,e.hh.seq h1,h2.mono e.zz]
theorem IsS.share {s:S}(h:IsS K p v s):IsS K p v s.share:=by
 cases s with
 |d x=>exact h
 |l xs =>
  obtain⟨a,vs,e1,h1,h2⟩:=h
  exact#[a,vs,e1,SqL.of h1,h2]
 |r xs=>exact h
theorem Is.tup_inv {xs:List D}(h:Is K H v (.tup xs)):∃a vs,v=.ref a/\SqT K H a vs/\Iss K H vs xs:=by
 cases h with
 |tup h hl r=>exact#[_,_,rfl,h,hl,r]
theorem Is.lst_inv {xs:List D}(h:Is K H v (.lst xs)):∃a vs,v=.ref a/\SqL K H a vs/\Iss K H vs xs:=by
 cases h with
 |lst h hl r=>exact#[_,_,rfl,SqL.of h,hl,r]
theorem Is.lst_own {xs:List D}(h:Is K H v (.lst xs)):∃a vs,v=.ref a/\H a=some (.lst vs)/\Iss K H vs xs:=by
 cases h with
 |lst h hl r=>exact#[_,_,rfl,h,hl,r]
theorem Is.int_inv {i:Int}(h:Is K H v (.int i)):v=.int i:=by cases h;rfl
theorem Is.bl_inv {i:Bool}(h:Is K H v (.bl i)):v=.bl i:=by cases h;rfl
theorem Is.non_inv (h:Is K H v .non):v=.non:=by cases h;rfl
theorem Is.str_inv {i:Str}(h:Is K H v (.str i)):v=.str i:=by cases h;rfl
end
abbrev Tau:=List (Option S)
def Fr3 (K:W.Frag)(p q:HZ)(v:V)(s:S):Prop:=∀xs a,s=.l xs->v=.ref a->p.h a=none/\K.lookup a=none/\q.z a=none
structure Rep (X:Cx)(b:HZ)(τ:Tau)(σ:St)(p:HZ):Prop where
 len:σ.length=τ.length
 ext:Ext b p
 val:∀(i:Nat)(s:S),τ[i]? = some (some s)->∃v,σ[i]? = some (some v)/\IsS X.K p v s
 own:∀(i:Nat)(xs:List D)(a:Addr),τ[i]? = some (some (.l xs))->σ[i]? = some (some (.ref a))->b.h a=none/\X.K.lookup a=none/\p.z a=none
 sep:∀(i j:Nat)(xs:List D)(s:S)(a:Addr),i≠j->τ[i]? = some (some (.l xs))->τ[j]? = some (some s)->s.isL=true->σ[i]? = some (some (.ref a))->σ[j]?≠some (some (.ref a))
 top:X.lent=none->AG X.H₀ b.h
 pin:∀i a,X.lent=some (i,a)->σ[i]? = some (some (.ref a))
def Dz (X:Cx)(i:Nat):Prop:=∀k a,X.lent=some (k,a)->k≠i
theorem CZ {X:Cx}{i:Nat}(h:X.lent=none):Dz X i:=fun k a e=>by rw[h] at e;cases e
section
variable {X:Cx}{b b' p q:HZ}{τ τ':Tau}{σ:St}{v:V}{s:S}
theorem Rep.all (r:Rep X b τ σ p)(hl:X.lent=none):AG X.H₀ p.h:=(r.top hl).trans r.ext.hh
theorem Rep.own_list {i:Nat}{xs:List D}{a:Addr}(r:Rep X b τ σ p) (h1:τ[i]? = some (some (.l xs))) (h2:σ[i]? = some (some (.ref a))):∃vs,p.h a=some (.lst vs)/\Iss X.K p.z vs xs:=by
 obtain⟨v,e,c,vs,e1,h3,h4⟩:=r.val i _ h1
 rw[h2] at e
 cases e
 cases e1
 exact#[vs,h3,h4]
theorem Rep.mono (r:Rep X b τ σ p)(e:Ext p q):Rep X b τ σ q :=
 #[r.len,r.ext.trans e,fun i s h=>let #[v,h1,h2]:=r.val i s h;#[v,h1,h2.mono e],(fun i xs a h1 h2=>by
  obtain⟨o1,o2,o3⟩:=r.own i xs a h1 h2
  obtain⟨vs,hv,_⟩:=r.own_list h1 h2
  refine#[o1,o2,?_]
  cases z:q.z a with
  |none=>rfl
  |some o =>
   rcases e.new a o z with x|x
   .rw[o3] at x;cases x
   .rw[hv] at x;cases x),r.sep,r.top,r.pin]
theorem JH {K:W.Frag}(e:Ext b p) (f:Fr3 K p q v s):Fr3 K b q v s:=fun xs a h1 h2=>#[e.hh.free (f xs a h1 h2).1,(f xs a h1 h2).2]
theorem Au {α:Type}{l:List (Option α)}{i j:Nat}{x y:α}(h:(l.set i (some x))[j]? = some (some y)):(j=i/\y=x)\/(j≠i/\l[j]? = some (some y)):=by
 rw[qCr] at h
 by_cases hij:i=j
 .rw[if_pos hij] at h
  split at h
  .cases h
   exact .inl #[hij.symm,rfl]
  .cases h
 .rw[if_neg hij] at h
  exact .inr #[fun z=>hij z.symm,h]
theorem Rep.set {i:Nat}(r:Rep X b τ σ p) (e:Ext p q) (h:IsS X.K q v s) (f:Fr3 X.K p q v s) (hr:s.isL=s.own) (hp:Dz X i):Rep X b (τ.set i (some s)) (σ.set i (some v)) q:=by
 have r':=r.mono e
 refine#[by simp[r.len],r'.ext,fun j s' hj=>?_,fun j xs a hj ha=>?_,fun j k xs s' a hjk hj hk hs ha=>?_,r.top,fun k a hk=>by rw[qBp (fun z=>hp k a hk z.symm)];exact r.pin k a hk]
 .rcases Au hj with⟨rfl,rfl⟩|⟨hn,hj⟩
  .have hl:j<σ.length:=by
    rw[r.len]
    have:=(qAf.mp hj).1
    simpa using this
   exact#[v,by rw[qBa hl],h]
  .obtain⟨w,h1,h2⟩:=r'.val j s' hj
   exact#[w,by rw[qBp (fun z=>hn z.symm)];exact h1,h2]
 .rcases Au hj with⟨rfl,e1⟩|⟨hn,hj⟩
  .rcases Au ha with⟨_,e2⟩|⟨hn,_⟩
   .exact(JH r.ext f) xs a e1.symm e2.symm
   .exact absurd rfl hn
  .rcases Au ha with⟨e2,_⟩|⟨_,ha⟩
   .exact absurd e2 hn
   .exact r'.own j xs a hj ha
 .
  have fresh:∀(m:Nat)(t:S),τ[m]? = some (some t)->t.isL=true->s.own=true->v=.ref a->σ[m]?≠some (some (.ref a)):=by
   intro m t hm ht ho hv hσ
   obtain⟨w,h1,h2⟩:=r.val m t hm
   rw[hσ] at h1
   cases h1
   cases s with
   |d _=>cases ho
   |r _=>cases ho
   |l ys =>
    obtain⟨f1,f2,_⟩:=f ys a rfl hv
    cases t with
    |d _=>cases ht
    |l zs =>
     obtain⟨c,vs,e1,h3,_⟩:=h2
     cases e1
     rw[f1] at h3
     cases h3
    |r zs =>
     obtain⟨c,vs,e1,h3,_⟩:=h2
     cases e1
     rcases h3 with (h3|⟨o,h3⟩)|⟨o,its,n,h3,_⟩
     .rw[f1] at h3;cases h3
     .rw[f1] at h3;cases h3
     .rw[f2] at h3;cases h3
  intro hσk
  rcases Au hj with⟨rfl,e1⟩|⟨hn,hj'⟩
  .rcases Au ha with⟨_,e2⟩|⟨hn,_⟩
   .rcases Au hk with⟨e3,_⟩|⟨_,hk⟩
    .exact hjk e3.symm
    .rcases Au hσk with⟨e4,_⟩|⟨_,hσk⟩
     .exact hjk e4.symm
     .exact fresh k s' hk hs (by rw[<-e1];rfl) e2.symm hσk
   .exact absurd rfl hn
  .rcases Au ha with⟨e2,_⟩|⟨_,ha'⟩
   .exact absurd e2 hn
   .rcases Au hk with⟨e3,e4⟩|⟨hkn,hk'⟩
    .rcases Au hσk with⟨_,e5⟩|⟨hx,_⟩
     .subst e4
      exact fresh j (.l xs) hj' rfl (by rw[<-hr];exact hs) e5.symm ha'
     .exact absurd e3 hx
    .rcases Au hσk with⟨e5,_⟩|⟨_,hσk'⟩
     .exact absurd e5 hkn
     .exact r.sep j k xs s' a hjk hj' hk' hs ha' hσk'
theorem Rep.freeze {i:Nat}{xs:List D}(r:Rep X b τ σ p) (h:τ[i]? = some (some s)) (e:s.share=.r xs):Rep X b (τ.set i (some (.r xs))) σ p:=by
 have hs:s.isL=true:=by
  cases s with
  |d _=>cases e
  |l _=>rfl
  |r _=>rfl
 refine#[by simp[r.len],r.ext,fun j s' hj=>?_,fun j ys a hj ha=>?_,fun j k ys s' a hjk hj hk hs' ha=>?_,r.top,r.pin]
 .rcases Au hj with⟨rfl,rfl⟩|⟨hn,hj⟩
  .obtain⟨v,h1,h2⟩:=r.val j s h
   exact#[v,h1,by rw[<-e];exact h2.share]
  .exact r.val j s' hj
 .rcases Au hj with⟨rfl,e1⟩|⟨hn,hj⟩
  .cases e1
  .exact r.own j ys a hj ha
 .rcases Au hj with⟨rfl,e1⟩|⟨hn,hj'⟩
  .cases e1
  .rcases Au hk with⟨rfl,e4⟩|⟨hkn,hk'⟩
   .exact r.sep j k ys s a hjk hj' h hs ha
   .exact r.sep j k ys s' a hjk hj' hk' hs' ha
theorem Rep.data {i:Nat}{xs:List D}{h z:Hp}(r:Rep X b τ σ #[h,z]) (hi:τ[i]? = some (some (.l xs))):∃z',Rep X b (τ.set i (some (.d (.lst xs)))) σ #[h,z']:=by
 obtain⟨v,h1,a,vs,rfl,h2,h3⟩:=r.val i _ hi
 obtain⟨o1,o2,o3⟩:=r.own i xs a hi h1
 have zz:AG z (upd z a (.lst vs)):=Bz o3 _
 refine#[upd z a (.lst vs),by simp[r.len],r.ext.freeze o1 o3 h2,fun j s' hj=>?_,fun j ys c hj hc=>?_,fun j k ys s' c hjk hj hk hs' hc=>?_,r.top,r.pin]
 .rcases Au hj with⟨rfl,rfl⟩|⟨hn,hj⟩
  .have h3':=h3.mono zz
   exact#[.ref a,h1,Is.lst Aj h3'.1 h3'.2]
  .obtain⟨w,w1,w2⟩:=r.val j s' hj
   refine#[w,w1,?_]
   cases s' with
   |d x=>exact Is.mono zz w2
   |l zs=>obtain⟨c,us,e1,q1,q2⟩:=w2;exact#[c,us,e1,q1,q2.mono zz]
   |r zs=>obtain⟨c,us,e1,q1,q2⟩:=w2;exact#[c,us,e1,q1,q2.mono zz]
 .rcases Au hj with⟨rfl,e1⟩|⟨hn,hj'⟩
  .cases e1
  .obtain⟨q1,q2,q3⟩:=r.own j ys c hj' hc
   refine#[q1,q2,?_]
   show upd z a (.lst vs) c=none
   have hca:c≠a:=by
    rintro rfl
    exact r.sep j i ys (.l xs) c hn hj' hi rfl hc h1
   rw[Af hca]
   exact q3
 .rcases Au hj with⟨rfl,e1⟩|⟨hn,hj'⟩
  .cases e1
  .rcases Au hk with⟨rfl,e4⟩|⟨hkn,hk'⟩
   .subst e4;cases hs'
   .exact r.sep j k ys s' c hjk hj' hk' hs' hc
open Classical in
noncomputable def Ie (τ:Tau)(σ:St)(H:Hp):Hp:=fun b=>if ∃(i:Nat)(xs:List D),τ[i]? = some (some (S.l xs))/\σ[i]? = some (some (V.ref b)) then none else H b
theorem Qn {H:Hp}:AG (Ie τ σ H) H:=fun b o h=>by
 unfold Ie at h
 split at h
 .cases h
 .exact h
theorem Dt {H:Hp}{c:Addr}(h:∀(i:Nat)(xs:List D),τ[i]? = some (some (S.l xs))->σ[i]?≠some (some (V.ref c))):Ie τ σ H c=H c:=by
 unfold Ie
 rw[if_neg]
 rintro⟨i,xs,h1,h2⟩
 exact h i xs h1 h2
theorem Rep.baseB (r:Rep X b τ σ p):AG b.h (Ie τ σ p.h):=fun c o h=>by
 rw[Dt]
 .exact r.ext.hh c o h
 .intro i xs h1 h2
  have:=(r.own i xs c h1 h2).1
  rw[h] at this
  cases this
theorem Rep.inB (r:Rep X b τ σ p):Rep X #[Ie τ σ p.h,p.z] τ σ p :=
 #[r.len,#[Qn,AG.refl _,r.ext.sub,fun _ _ e=>.inl e],r.val,fun i xs a h1 h2=>#[by show Ie τ σ p.h a=none;unfold Ie;rw[if_pos #[i,xs,h1,h2]],(r.own i xs a h1 h2).2],r.sep,fun h=>(r.top h).trans r.baseB,r.pin]
structure LeB (X:Cx)(b b':HZ):Prop where
 hh:AG b.h b'.h
 zz:AG b.z b'.z
 new:∀a o,b'.z a=some o->b.z a=some o\/b.h a=none
 top:X.lent=none->AG X.H₀ b.h
theorem LeB.ext (e:LeB X b b')(f:Ext b' p):Ext b p:=#[e.hh.trans f.hh,e.zz.trans f.zz,f.sub,fun a o h=>by
 rcases f.new a o h with x|x
 .exact e.new a o x
 .exact .inr (e.hh.free x)]
theorem Rep.outB (e:LeB X b b')(r:Rep X b' τ σ p):Rep X b τ σ p :=
 #[r.len,e.ext r.ext,r.val,fun i xs a h1 h2=>#[e.hh.free (r.own i xs a h1 h2).1,(r.own i xs a h1 h2).2],r.sep,e.top,r.pin]
theorem Rep.leB (r:Rep X b τ σ p):LeB X b #[Ie τ σ p.h,p.z]:=#[r.baseB,r.ext.zz,r.ext.new,r.top]
theorem Rep.leR (r:Rep X b τ σ p):LeB X b b:=#[AG.refl _,AG.refl _,fun _ _ e=>.inl e,r.top]
end
abbrev TE3:=Tau->(S->Prop)->Prop
abbrev TT3:=Tau->(Bool->Prop)->Prop
abbrev TA3:=Tau->(List S->Prop)->Prop
structure HG where
 nx:Tau->Prop
 rt:S->Prop
 bk:Tau->Prop:=fun _=>False
 ct:Tau->Prop:=fun _=>False
abbrev TS3:=HG->Tau->Prop
def Args (K:W.Frag)(p:HZ)(vs:List V)(ss:List S):Prop :=
 vs.length=ss.length/\∀(i:Nat)(v:V)(s:S),vs[i]? = some v->ss[i]? = some s->IsS K p v s/\s.own=false
def FE (X:Cx)(t:TE3):TE:=fun σ H Q=>∃B z τ R,Rep X B τ σ #[H,z]/\t τ R/\∀s v q,Ext #[H,z] q->IsS X.K q v s->Fr3 X.K #[H,z] q v s->R s->Q v q.h
def FT (X:Cx)(t:TT3):TT:=fun σ H Q=>∃B z τ R,Rep X B τ σ #[H,z]/\t τ R/\∀c q,Ext #[H,z] q->R c->Q c q.h
def FA (X:Cx)(t:TA3):TA:=fun σ H Q=>∃B z τ R,Rep X B τ σ #[H,z]/\t τ R/\∀ss vs q,Ext #[H,z] q->Args X.K q vs ss->R ss->Q vs q.h
structure Q3 (X:Cx)(B:HZ)(D3:HG)(D2:GB):Prop where
 nx:∀τ σ p,Rep X B τ σ p->D3.nx τ->D2.nx σ p.h
 bk:∀τ σ p,Rep X B τ σ p->D3.bk τ->D2.bk σ p.h
 ct:∀τ σ p,Rep X B τ σ p->D3.ct τ->D2.ct σ p.h
 rt:∀s v q,Ext B q->IsS X.K q v s->Fr3 X.K B q v s->D3.rt s->D2.rt v q.h
def FS (X:Cx)(t:TS3):TS:=fun D2 σ H=>∃B z τ D3,Rep X B τ σ #[H,z]/\t D3 τ/\Q3 X B D3 D2
structure PE3 (X:Cx)(e:Expr)(t:TE3):Prop where
 out:PE X e (FE X t)
structure PT3 (X:Cx)(e:Expr)(t:TT3):Prop where
 out:PT X e (FT X t)
structure PW3 (X:Cx)(e:Expr)(t:TT3):Prop where
 out:PW X e (FT X t)
structure PA3 (X:Cx)(es:List Expr)(t:TA3):Prop where
 out:PA X es (FA X t)
structure PS3 (X:Cx)(st:Stmt)(t:TS3):Prop where
 out:PS X st (FS X t)
structure CY (X:Cx)(st:List Stmt)(t:TS3):Prop where
 out:PSs X st (FS X t)
theorem PW3.pt {X:Cx}{e:Expr}{t:TT3}(h:PW3 X e t):PT3 X e t:=#[h.out _]
section
variable {X:Cx}{e a b:Expr}{ta tb:TE3}{pos:Pos}
theorem Br {t t':TE}(h:PE X e t) (f:∀σ H Q,t' σ H Q->t σ H Q):PE X e t':=fun pins s σ H Q I q=>h pins s σ H Q I (f σ H Q q)
theorem Nk {t t':TT}(h:PT X e t) (f:∀σ H Q,t' σ H Q->t σ H Q):PT X e t':=fun pins s σ H Q I q=>h pins s σ H Q I (f σ H Q q)
theorem OK {t t':TT}(h:PW X e t) (f:∀σ H Q,t' σ H Q->t σ H Q):PW X e t':=fun wh pins s σ H Q I q=>h wh pins s σ H Q I (f σ H Q q)
theorem OE {es:List Expr}{t t':TA}(h:PA X es t) (f:∀σ H Q,t' σ H Q->t σ H Q):PA X es t':=fun pos pins s σ H Q I q=>h pos pins s σ H Q I (f σ H Q q)
theorem BK {st:Stmt}{t t':TS}(h:PS X st t) (f:∀D σ H,t' D σ H->t D σ H):PS X st t':=fun pins s σ H D I q=>h pins s σ H D I (f D σ H q)
theorem Fv {st:List Stmt}{t t':TS}(h:PSs X st t) (f:∀D σ H,t' D σ H->t D σ H):PSs X st t':=fun pins s σ H D I q=>h pins s σ H D I (f D σ H q)
def SY (i:Nat):TE3:=fun τ R=>match τ[i]? with
 |some (some s)=>R s.share
 |_=>False
def vC (d:D):TE3:=fun _ R=>R (.d d)
theorem Oh {K:W.Frag}{p q:HZ}{v:V}{s:S}:Fr3 K p q v s.share:=by
 intro xs a h
 cases s<;>cases h
theorem EB {K:W.Frag}{p q:HZ}{v:V}{d:D}:Fr3 K p q v (.d d):=by
 intro xs a h
 cases h
theorem Uv {i:Nat}{x:Str}(h:PE X (.Name x pos) (Dd i)):PE3 X (.Name x pos) (SY i):=by
 refine#[?_]
 refine Br h fun σ H Q hh9=>?_
 obtain⟨B,z,τ,R,r,ht,q⟩:=hh9
 unfold SY at ht
 split at ht
 .rename_i s hs
  obtain⟨v,h1,h2⟩:=r.val i s hs
  exact#[v,h1,q _ v #[H,z] (Ext.refl r.ext.sub) h2.share Oh ht]
 .exact ht.elim
theorem Jq {v:V}{d:D}(h:PE X e (tC v)) (hd:∀K H,Is K H v d):PE3 X e (vC d):=#[Br h fun σ H Q hh=>by obtain⟨B,z,τ,R,r,ht,q⟩:=hh;exact q (.d d) v #[H,z] (Ext.refl r.ext.sub) (hd _ _) EB ht]
theorem Ad {i j}:PE3 X (.Constant (.int i) j pos) (vC (.int i)):=Jq DF fun _ _=>.int i
theorem GP {i j}:PE3 X (.Constant (.bool i) j pos) (vC (.bl i)):=Jq NB fun _ _=>.bl i
theorem GO {x j}:PE3 X (.Constant (.str x) j pos) (vC (.str x)):=Jq Sk fun _ _=>.str x
abbrev R3:=D->D->(D->Prop)->Prop
def lft (K:W.Frag)(r3:R3):R2:=fun x y H Q=>∃z dx dy R,AG z H/\Is K z x dx/\Is K z y dy/\r3 dx dy R/\∀d v q,Ext #[H,z] q->Is K q.z v d->R d->Q v q.h
def F6 (X:Cx)(f:Value->Value->Sem Value)(r3:R3):Prop:=OpR X f (lft X.K r3)
theorem Fe {f:Value->Value->Sem Value}{r r':R2}(h:OpR X f r) (i:∀x y H Q,r' x y H Q->r x y H Q):OpR X f r':=fun pins s σ H x y v u Q I rx ry q=>h pins s σ H x y v u Q I rx ry (i x y H Q q)
def oI (C:Int->Int->Prop)(g:Int->Int->Int):R3:=fun dx dy R=>match dx,dy with
 |.int i,.int j=>C i j/\R (.int (g i j))
 |_,_=>False
def oI0 (g:Int->Int->Int):R3:=fun dx dy R=>match dx,dy with
 |.int i,.int j=>R (.int (g i j))
 |_,_=>False
def oB0 (g:Int->Int->Bool):R3:=fun dx dy R=>match dx,dy with
 |.int i,.int j=>R (.bl (g i j))
 |_,_=>False
theorem Nw {f:Value->Value->Sem Value}{C:Int->Int->Prop}{g:Int->Int->Int}(h:OpR X f (rI C fun i j=>.int (g i j))):F6 X f (oI C g) :=
 Fe h fun x y H Q hh=>by
  obtain⟨z,dx,dy,R,hz,hx,hy,h3,q⟩:=hh
  unfold oI at h3
  split at h3
  .rename_i i j
   exact#[i,j,hx.int_inv,hy.int_inv,h3.1,q _ _ #[H,z] (Ext.refl hz) (.int _) h3.2]
  .exact h3.elim
theorem Pa {f:Value->Value->Sem Value}{g:Int->Int->Int}(h:OpR X f (rI0 fun i j=>.int (g i j))):F6 X f (oI0 g) :=
 Fe h fun x y H Q hh=>by
  obtain⟨z,dx,dy,R,hz,hx,hy,h3,q⟩:=hh
  unfold oI0 at h3
  split at h3
  .rename_i i j
   exact#[i,j,hx.int_inv,hy.int_inv,q _ _ #[H,z] (Ext.refl hz) (.int _) h3]
  .exact h3.elim
theorem Ot {f:Value->Value->Sem Value}{g:Int->Int->Bool}(h:OpR X f (rI0 fun i j=>.bl (g i j))):F6 X f (oB0 g) :=
 Fe h fun x y H Q hh=>by
  obtain⟨z,dx,dy,R,hz,hx,hy,h3,q⟩:=hh
  unfold oB0 at h3
  split at h3
  .rename_i i j
   exact#[i,j,hx.int_inv,hy.int_inv,q _ _ #[H,z] (Ext.refl hz) (.bl _) h3]
  .exact h3.elim
theorem Qj:OpR X (binaryOp .Mult) (rI IntMulOk fun i j=>.int (i*j)):=opI fun _ _ _ _ _ _ _ hc q=>mul_int q hc
def CDv (i j:Int):Prop:=j≠0/\Builtin.divisionGoesByPylong i j=false
theorem Ol:OpR X (binaryOp .FloorDiv) (rI CDv fun i j=>.int (i.fdiv j)):=opI fun _ _ _ _ _ _ _ hc q=>floordiv_int hc.1 q (.inl hc.2)
def Vl:R3:=fun dx dy R=>match dx,dy with
 |.int i,.int j=>R (.int (i+j))
 |_,_=>False
theorem A7:F6 X (binaryOp .Add) Vl:=Pa OI
def U1:R3:=fun dx dy R=>match dx,dy with
 |.int i,.int j=>R (.int (i-j))
 |_,_=>False
theorem CB:F6 X (binaryOp .Sub) U1:=Pa RF
def U3:R3:=fun dx dy R=>match dx,dy with
 |.int i,.int j=>IntMulOk i j/\R (.int (i*j))
 |_,_=>False
theorem A6:F6 X (binaryOp .Mult) U3:=Nw Qj
def Uq:R3:=fun dx dy R=>match dx,dy with
 |.int i,.int j=>CDv i j/\R (.int (i.fdiv j))
 |_,_=>False
theorem Bi:F6 X (binaryOp .FloorDiv) Uq:=Nw Ol
def Vt:R3:=fun dx dy R=>match dx,dy with
 |.int i,.int j=>j≠0/\R (.int (i.fmod j))
 |_,_=>False
theorem BQ:F6 X (binaryOp .Mod) Vt:=Nw Qw
def VE:R3:=fun dx dy R=>match dx,dy with
 |.int i,.int j=>UU i j/\R (.int (i^j.toNat))
 |_,_=>False
theorem Og:F6 X (binaryOp .Pow) VE:=Nw RE
def oLt:R3:=fun dx dy R=>match dx,dy with
 |.int i,.int j=>R (.bl (decide (i<j)))
 |_,_=>False
theorem LB:F6 X (compareOp .Lt) oLt:=Ot Ug
def oLe:R3:=fun dx dy R=>match dx,dy with
 |.int i,.int j=>R (.bl (decide (i<=j)))
 |_,_=>False
theorem Ut:F6 X (compareOp .LtE) oLe:=Ot T8
def oGt:R3:=fun dx dy R=>match dx,dy with
 |.int i,.int j=>R (.bl (decide (j<i)))
 |_,_=>False
theorem S8:F6 X (compareOp .Gt) oGt:=Ot Q8
def oGe:R3:=fun dx dy R=>match dx,dy with
 |.int i,.int j=>R (.bl (decide (j<=i)))
 |_,_=>False
theorem Vh:F6 X (compareOp .GtE) oGe:=Ot Uh
def oEq:R3:=fun dx dy R=>match dx,dy with
 |.int i,.int j=>R (.bl (decide (i=j)))
 |.bl i,.bl j=>R (.bl (decide (i=j)))
 |.str i,.str j=>R (.bl (decide (i=j)))
 |_,_=>False
def oNe:R3:=fun dx dy R=>match dx,dy with
 |.int i,.int j=>R (.bl (!decide (i=j)))
 |.bl i,.bl j=>R (.bl (!decide (i=j)))
 |.str i,.str j=>R (.bl (!decide (i=j)))
 |_,_=>False
theorem Lf {α β:Type}{i j:α}{f:α->β} [DecidableEq α] [DecidableEq β] (h:∀a b,f a=f b->a=b):decide (f i=f j)=decide (i=j):=by
 by_cases e:i=j
 .rw[decide_eq_true e,decide_eq_true (by rw[e])]
 .rw[decide_eq_false e,decide_eq_false fun z=>e (h _ _ z)]
theorem Iq:F6 X (compareOp .Eq) oEq :=
 Fe T9 fun x y H Q hh=>by
  obtain⟨z,dx,dy,R,hz,hx,hy,h3,q⟩:=hh
  unfold oEq at h3
  split at h3
  .rename_i i j
   cases hx.int_inv
   cases hy.int_inv
   exact#[rfl,by rw[Lf (f:=V.int) (fun _ _ z=>by cases z;rfl)];exact q _ _ #[H,z] (Ext.refl hz) (.bl _) h3]
  .rename_i i j
   cases hx.bl_inv
   cases hy.bl_inv
   exact#[rfl,by rw[Lf (f:=V.bl) (fun _ _ z=>by cases z;rfl)];exact q _ _ #[H,z] (Ext.refl hz) (.bl _) h3]
  .rename_i i j
   cases hx.str_inv
   cases hy.str_inv
   exact#[rfl,by rw[Lf (f:=V.str) (fun _ _ z=>by cases z;rfl)];exact q _ _ #[H,z] (Ext.refl hz) (.bl _) h3]
  .exact h3.elim
theorem NU:F6 X (compareOp .NotEq) oNe :=
 Fe Uj fun x y H Q hh=>by
  obtain⟨z,dx,dy,R,hz,hx,hy,h3,q⟩:=hh
  unfold oNe at h3
  split at h3
  .rename_i i j
   cases hx.int_inv
   cases hy.int_inv
   exact#[rfl,by rw[Lf (f:=V.int) (fun _ _ z=>by cases z;rfl)];exact q _ _ #[H,z] (Ext.refl hz) (.bl _) h3]
  .rename_i i j
   cases hx.bl_inv
   cases hy.bl_inv
   exact#[rfl,by rw[Lf (f:=V.bl) (fun _ _ z=>by cases z;rfl)];exact q _ _ #[H,z] (Ext.refl hz) (.bl _) h3]
  .rename_i i j
   cases hx.str_inv
   cases hy.str_inv
   exact#[rfl,by rw[Lf (f:=V.str) (fun _ _ z=>by cases z;rfl)];exact q _ _ #[H,z] (Ext.refl hz) (.bl _) h3]
  .exact h3.elim
def dd (x:S)(k:D->Prop):Prop:=match x with
 |.d d=>k d
 |_=>False
def vOp (r3:R3)(ta tb:TE3):TE3:=fun τ R=>ta τ fun x=>tb τ fun y=>dd x fun dx=>dd y fun dy=>r3 dx dy fun d=>R (.d d)
theorem C0 {x:S}{k:D->Prop}(h:dd x k):∃d,x=.d d/\k d:=by
 cases x with
 |d d=>exact#[d,rfl,h]
 |l _=>exact h.elim
 |r _=>exact h.elim
theorem two {r3:R3}{σ:St}{H:Hp}{Q:VK}(h:FE X (vOp r3 ta tb) σ H Q):tOp (lft X.K r3) (FE X ta) (FE X tb) σ H Q:=by
 obtain⟨B,z,τ,R,r,ht,q⟩:=h
 refine#[B,_,τ,_,r,ht,fun x v H1 e1 i1 f1 h1=>?_]
 refine#[B,_,τ,_,r.mono e1,h1,fun y u H2 e2 i2 f2 h2=>?_]
 obtain⟨dx,rfl,h4⟩:=C0 h2
 obtain⟨dy,rfl,h5⟩:=C0 h4
 exact#[H2.z,dx,dy,_,e2.sub,Is.mono e2.zz i1,i2,h5,fun d w H3 e3 i3 h3=>q (.d d) w H3 (e1.trans (e2.trans e3)) i3 EB h3]
theorem Ao {op:Operator}{r3:R3}(ho:F6 X (binaryOp op) r3) (ha:PE3 X a ta) (hb:PE3 X b tb):PE3 X (.BinOp a op b pos) (vOp r3 ta tb):=#[Br (Qv ho ha.out hb.out) fun _ _ _ h=>two h]
theorem Lq {op:CmpOp}{r3:R3}(ho:F6 X (compareOp op) r3) (ha:PE3 X a ta) (hb:PE3 X b tb) (hm:behindInMarks op b=false):PE3 X (.Compare a [op] [b] pos) (vOp r3 ta tb):=#[Br (Nb ho ha.out hb.out hm) fun _ _ _ h=>two h]
def bb (x:S)(k:Bool->Prop):Prop:=match x with
 |.d (.bl c)=>k c
 |_=>False
theorem J3 {x:S}{k:Bool->Prop}(h:bb x k):∃c,x=.d (.bl c)/\k c:=by
 unfold bb at h
 split at h
 .exact#[_,rfl,h]
 .exact h.elim
def PB (t:TE3):TT3:=fun τ R=>t τ fun x=>bb x R
theorem TK {op:CmpOp}{r3:R3}(ho:F6 X (compareOp op) r3) (ha:PE3 X a ta) (hb:PE3 X b tb) (hm:behindInMarks op b=false):PT3 X (.Compare a [op] [b] pos) (PB (vOp r3 ta tb)):=#[Nk (Jv ho ha.out hb.out hm) fun σ H Q hh=>by obtain⟨B,z,τ,R,r,ht,q⟩:=hh;exact two #[B,_,τ,_,r,ht,fun s v H' e i f h=>by
 obtain⟨c,rfl,h⟩:=J3 h
 cases Is.bl_inv i
 exact#[c,rfl,q c H' e h]]]
theorem Bb {t:TE3}(h:PE3 X e t) (he:∀whole,isTrue e X.env whole=(do let v <-whole;standAt e.pos;holding [v] (truthy v)):=by intro _;rfl):PT3 X e (PB t):=#[Nk (OL h.out he) fun σ H Q hh=>by obtain⟨B,z,τ,R,r,ht,q⟩:=hh;exact#[B,_,τ,_,r,ht,fun s v H' e i f hz=>by
 obtain⟨c,rfl,hz⟩:=J3 hz
 cases Is.bl_inv i
 exact#[c,rfl,q c H' e hz]]]
def VG (ta:TE3):TE3:=fun τ R=>ta τ fun x=>match x with
 |.d (.int i)=>R (.d (.int (-i)))
 |_=>False
theorem QG (ha:PE3 X a ta):PE3 X (.UnaryOp .USub a pos) (VG ta):=#[Br (Tw Sv ha.out) fun σ H Q hh=>by obtain⟨B,z,τ,R,r,ht,q⟩:=hh;exact#[B,_,τ,_,r,ht,fun s v H' e i f h=>by
 split at h
 .rename_i i'
  exact#[i',Is.int_inv i,q (.d _) _ H' e (Is.int _) EB h]
 .exact h.elim]]
variable {tA tB':TT3}{rest:List Expr}
def Vp (t u:TT3):TT3:=fun τ R=>t τ fun c=>if c=true then u τ R else R false
def wOr (t u:TT3):TT3:=fun τ R=>t τ fun c=>if c=true then R true else u τ R
def Vj (t:TT3):TT3:=fun τ R=>t τ fun c=>R (!c)
theorem Fz (ha:PT3 X a tA):PW3 X (.BoolOp .And [a] pos) tA:=#[PF ha.out]
theorem D8 (ha:PT3 X a tA):PW3 X (.BoolOp .Or [a] pos) tA:=#[OS ha.out]
theorem Jc (ha:PT3 X a tA)(hb:PW3 X (.BoolOp .And (b::rest) pos) tB'):PW3 X (.BoolOp .And (a::b::rest) pos) (Vp tA tB'):=#[OK (R7 ha.out hb.out) fun σ H Q hh=>by obtain⟨B,z,τ,R,r,ht,q⟩:=hh;exact#[B,_,τ,_,r,ht,fun c H1 e h=>by
 cases c with
 |true=>rw[if_pos rfl] at h ⊢;exact#[B,_,τ,R,r.mono e,h,fun d H2 e2 h2=>q d H2 (e.trans e2) h2]
 |false=>rw[if_neg qAm] at h ⊢;exact q _ _ e h]]
theorem Hk (ha:PT3 X a tA)(hb:PW3 X (.BoolOp .Or (b::rest) pos) tB'):PW3 X (.BoolOp .Or (a::b::rest) pos) (wOr tA tB'):=#[OK (Ss ha.out hb.out) fun σ H Q hh=>by obtain⟨B,z,τ,R,r,ht,q⟩:=hh;exact#[B,_,τ,_,r,ht,fun c H1 e h=>by
 cases c with
 |false=>rw[if_neg qAm] at h ⊢;exact#[B,_,τ,R,r.mono e,h,fun d H2 e2 h2=>q d H2 (e.trans e2) h2]
 |true=>rw[if_pos rfl] at h ⊢;exact q _ _ e h]]
theorem w_not (ha:PT3 X a tA):PT3 X (.UnaryOp .Not a pos) (Vj tA):=#[Nk (OZ ha.out) fun σ H Q hh=>by obtain⟨B,z,τ,R,r,ht,q⟩:=hh;exact#[B,_,τ,_,r,ht,fun c H1 e h=>q _ _ e h]]
def VD (ta tb:TE3):TE3:=fun τ R=>ta τ fun x=>bb x fun c=>if c=true then tb τ R else R (.d (.bl false))
def U6 (ta:TE3):TE3:=fun τ R=>ta τ fun x=>bb x fun c=>R (.d (.bl (!c)))
theorem Pw {op}{t:TE3}(h:PE3 X a t):PE3 X (.BoolOp op [a] pos) t:=#[Rq h.out]
theorem QB (ha:PE3 X a ta)(hb:PE3 X (.BoolOp .And (b::rest) pos) tb):PE3 X (.BoolOp .And (a::b::rest) pos) (VD ta tb):=#[Br (SI ha.out hb.out) fun σ H Q hh=>by obtain⟨B,z,τ,R,r,ht,q⟩:=hh;exact#[B,_,τ,_,r,ht,fun s v H1 e i f h=>by
 obtain⟨c,rfl,h'⟩:=J3 h
 cases Is.bl_inv i
 refine#[c,rfl,?_]
 cases c with
 |true=>rw[if_pos rfl] at h' ⊢;exact#[B,_,τ,R,r.mono e,h',fun s2 v2 H2 e2 i2 f2 h2=>q _ _ _ (e.trans e2) i2 (JH e f2) h2]
 |false=>rw[if_neg qAm] at h' ⊢;exact q (.d _) _ _ e (Is.bl _) EB h']]
theorem QO (ha:PE3 X a ta):PE3 X (.UnaryOp .Not a pos) (U6 ta):=#[Br (Rf ha.out) fun σ H Q hh=>by obtain⟨B,z,τ,R,r,ht,q⟩:=hh;exact#[B,_,τ,_,r,ht,fun s v H1 e i f h=>by
 obtain⟨c,rfl,h'⟩:=J3 h
 cases Is.bl_inv i
 exact#[c,rfl,q (.d _) _ _ e (Is.bl _) EB h']]]
def items:S->Option (List D)
 |.d (.tup xs)=>some xs
 |.d (.lst xs)=>some xs
 |.l xs=>some xs
 |.r xs=>some xs
 |_=>none
def vIx (ta tb:TE3):TE3:=fun τ R=>ta τ fun x=>tb τ fun y=>match items x,y with
 |some xs,.d (.int i)=>match atI xs i with
  |some d=>R (.d d)
  |none=>False
 |_,_=>False
theorem Ic {K:W.Frag}{H:Hp}{vs:List V}{xs:List D}{i:Int}{d:D}(h:Iss K H vs xs) (e:atI xs i=some d):∃v,atI vs i=some v/\Is K H v d:=by
 unfold atI at e ⊢
 rw[h.1]
 cases q:ixN xs.length i with
 |none=>rw[q] at e;cases e
 |some j =>
  rw[q] at e
  have e':xs[j]? = some d:=e
  have hj:=(qAf.mp e').1
  have hl:j<vs.length:=by rw[h.1];exact hj
  have hv:vs[j]? = some vs[j]:=qAb hl
  exact#[vs[j],hv,h.2 j _ _ hv e']
theorem AF (ha:PE3 X a ta)(hb:PE3 X b tb)(hs:LW b:=by exact fun _ _=>rfl):PE3 X (.Subscript a b pos) (vIx ta tb):=#[Br (GG (CW.or Ek) ha.out hb.out hs) fun σ H Q hh=>by
 obtain⟨B,z,τ,R,r,ht,q⟩:=hh
 refine#[B,_,τ,_,r,ht,fun x v H1 e1 i1 f1 h1=>?_]
 refine#[B,_,τ,_,r.mono e1,h1,fun y u H2 e2 i2 f2 h2=>?_]
 split at h2
 .rename_i xs i hx
  split at h2
  .rename_i d hd
   cases Is.int_inv i2
   have i1':=IsS.mono e2 i1
   cases x with
   |d z =>
    cases z with
    |tup zs =>
     cases hx
     obtain⟨p,vs,rfl,h3,h4⟩:=Is.tup_inv i1'
     obtain⟨w,hw,iw⟩:=Ic h4 hd
     exact .inr #[p,vs,i,w,rfl,rfl,SqT.same e2.sub h3,hw,q (.d _) _ _ (e1.trans e2) iw EB h2]
    |lst zs =>
     cases hx
     obtain⟨p,vs,rfl,h3,h4⟩:=Is.lst_inv i1'
     obtain⟨w,hw,iw⟩:=Ic h4 hd
     exact .inl #[p,vs,i,w,rfl,rfl,e2.sub.seq h3,hw,q (.d _) _ _ (e1.trans e2) iw EB h2]
    |_=>cases hx
   |l zs =>
    cases hx
    obtain⟨p,vs,rfl,h3,h4⟩:=i1'
    obtain⟨w,hw,iw⟩:=Ic h4 hd
    exact .inl #[p,vs,i,w,rfl,rfl,SqL.of h3,hw,q (.d _) _ _ (e1.trans e2) iw EB h2]
   |r zs =>
    cases hx
    obtain⟨p,vs,rfl,h3,h4⟩:=i1'
    obtain⟨w,hw,iw⟩:=Ic h4 hd
    exact .inl #[p,vs,i,w,rfl,rfl,h3,hw,q (.d _) _ _ (e1.trans e2) iw EB h2]
  .exact h2.elim
 .exact h2.elim]
variable {es:List Expr}{tr:TA3}{te:TE3}
def S6:TA3:=fun _ R=>R []
def S.arg:S->S
 |.l xs=>.d (.lst xs)
 |s=>s
def Mt (ta:TE3)(tr:TA3):TA3:=fun τ R=>ta τ fun x=>tr τ fun xs=>R (x.arg::xs)
theorem FP:PA3 X [] S6:=#[OE AA fun σ H Q hh=>by obtain⟨B,z,τ,R,r,ht,q⟩:=hh;exact q [] [] #[H,z] (Ext.refl r.ext.sub) #[rfl,fun i v s h=>by simp at h] ht]
theorem PL (s:S):s.arg.own=false:=by cases s<;>rfl
theorem DG {K:W.Frag}{p q:HZ}{v:V}{s:S}(e:Ext p q) (i:IsS K q v s) (f:Fr3 K p q v s):∃z',Ext p #[q.h,z']/\IsS K #[q.h,z'] v s.arg:=by
 cases s with
 |d x=>exact#[q.z,e,i]
 |r xs=>exact#[q.z,e,i]
 |l xs =>
  obtain⟨a,vs,rfl,h1,h2⟩:=i
  obtain⟨f1,f2,f3⟩:=f xs a rfl rfl
  have h3:=h2.mono (Bz f3 (.lst vs))
  exact#[upd q.z a (.lst vs),e.freeze f1 f3 h1,Is.lst Aj h3.1 h3.2]
theorem Bc (ha:PE3 X e te)(hr:PA3 X es tr)(hs:starEach (e::es) X.env=(false,eval e X.env)::starEach es X.env:=by exact Ct rfl):PA3 X (e::es) (Mt te tr) :=
 #[OE (Ak ha.out hr.out hs) fun σ H Q hh=>by
  obtain⟨B,z,τ,R,r,ht,q⟩:=hh
  refine#[B,_,τ,_,r,ht,fun x v H1 e1 i1 f1 h1=>?_]
  obtain⟨z1,e1',i1'⟩:=DG e1 i1 f1
  refine#[B,z1,τ,_,r.mono e1',h1,fun ss vs H2 e2 i2 h2=>?_]
  refine q _ _ _ (e1'.trans e2) #[by simp[i2.1],fun i w s hw hs=>?_] h2
  cases i with
  |zero =>
   simp at hw hs
   subst hw;subst hs
   exact#[IsS.mono e2 i1',PL x]
  |succ i=>exact i2.2 i w s (by simpa using hw) (by simpa using hs)]
def QZ:List S->Option (List D)
 |[]=>some []
 |.d x::r=>(QZ r).map (x :: ·)
 |_::_=>none
theorem HV:∀{ss:List S}{ds:List D},QZ ss=some ds->ss=ds.map S.d
 |[],ds,h=>by cases h;rfl
 |.d x::r,ds,h=>by
  unfold QZ at h
  cases q:QZ r with
  |none=>rw[q] at h;cases h
  |some ys =>
   rw[q] at h
   cases h
   rw[HV q]
   rfl
 |.l _::_,_,h=>by cases h
 |.r _::_,_,h=>by cases h
theorem KG {K:W.Frag}{p:HZ}{vs:List V}{ds:List D}(h:Args K p vs (ds.map S.d)):Iss K p.z vs ds:=by
 refine#[by simpa using h.1,fun i v x h1 h2=>?_]
 exact(h.2 i v (.d x) h1 (by rw[qAh,h2];rfl)).1
def VI (t:TA3):TE3:=fun τ R=>t τ fun ss=>match QZ ss with
 |some ds=>ds.length<=1000/\R (.d (.tup ds))
 |none=>False
theorem Pf {n:Nat}(h:n<=1000):n<=sizeLine:=qBq (MK h)
theorem BP {x1}(h:PA3 X es tr):PE3 X (.Tuple es x1 pos) (VI tr) :=
 #[Br (Sf h.out) fun σ H Q hh=>by obtain⟨B,z,τ,R,r,ht,q⟩:=hh;exact#[B,_,τ,_,r,ht,fun ss vs H1 e1 i1 h1=>by
  try dsimp only at h1
  split at h1
  .rename_i ds hd
   rw[HV hd] at i1
   have j:=KG i1
   refine#[by rw[j.1];exact Pf h1.1,fun p hp=>?_]
   have el:=Ext.lay (o:=.tup vs) e1.sub hp
   have j':=j.mono (Bz (e1.sub.free hp) (.tup vs))
   exact q (.d _) _ _ (e1.trans el) (Is.tup (SqT.of Aj) j'.1 j'.2) EB h1.2
  .exact h1.elim]]
theorem Qf {t:TA}(h:PA X es t):PE X (.List es pos) (fun σ H Q=>t σ H fun xs H1=>xs.length<=sizeLine/\∀p,H1 p=none->X.K.lookup p=none->Q (.ref p) (upd H1 p (.lst xs))):=by
 intro pins s σ H Q I hq
 refine wpAny_List_spliced (thn (h pos pins s σ H _ I hq) fun us s1 #[xs,H1,I1,r,z,q]=>#[by rw[<-r.length];exact z,?_])
 have hf:H1 s1.heap.objs.size=none:=I1.hok.fresh (qAd _)
 have hk:X.K.lookup s1.heap.objs.size=none:=by
  cases e:X.K.lookup s1.heap.objs.size with
  |none=>rfl
  |some o=>exact absurd (qAi (I1.kIn _ _ e)) (qAW _)
 refine#[.ref s1.heap.objs.size,upd H1 s1.heap.objs.size (.lst xs),I1.laid (t':=s1.toks) (fun b u e=>qAe _ e) (qAd _) ?_,rfl,q _ hf hk]
 exact#[z,us,0,r,qAA _ rfl]
def Vx (t:TA3):TE3:=fun τ R=>t τ fun ss=>match QZ ss with
 |some ds=>ds.length<=1000/\R (.l ds)
 |none=>False
theorem Et (h:PA3 X es tr):PE3 X (.List es pos) (Vx tr) :=
 #[Br (Qf h.out) fun σ H Q hh=>by obtain⟨B,z,τ,R,r,ht,q⟩:=hh;exact#[B,_,τ,_,r,ht,fun ss vs H1 e1 i1 h1=>by
  try dsimp only at h1
  split at h1
  .rename_i ds hd
   rw[HV hd] at i1
   have j:=KG i1
   refine#[by rw[j.1];exact Pf h1.1,fun p hp hk=>q (.l ds) _ #[_,H1.z] (e1.trans (Ext.own e1.sub hp _)) #[p,vs,rfl,Aj,j] (fun xs a _ h2=>?_) h1.2]
   cases h2
   exact#[e1.hh.free hp,hk,e1.sub.free hp]
  .exact h1.elim]]
def vCB (r:List S->(S->Prop)->Prop)(t:TA3):TE3:=fun τ R=>t τ fun ss=>r ss R
def Il (X:Cx)(f:Value)(r3:List S->(S->Prop)->Prop):Prop :=
 FN X f (fun xs H Q=>∃z ss R,AG z H/\Args X.K #[H,z] xs ss/\r3 ss R/\∀s v q,Ext #[H,z] q->IsS X.K q v s->Fr3 X.K #[H,z] q v s->R s->Q v q.h)
theorem F9 {f:Value}{r r':List V->Hp->VK->Prop}(h:FN X f r) (i:∀xs H Q,r' xs H Q->r xs H Q):FN X f r':=fun pins s σ H xs us Q I rs q=>h pins s σ H xs us Q I rs (i xs H Q q)
theorem HB {x:Str}{p:Pos}{id:String}{r:List S->(S->Prop)->Prop}(hc:Il X (.builtin id) r) (hg:Gl X x) (hm:X.mg x=none) (hv:bootBuiltins x=some (.builtin id)) (ha:PA3 X (e::es) tr) (hn:x≠"__name__":=by decide)
 (hdb:(x==("__debug__":Str))=false:=by decide) (he:starEach (e::es) X.env=(false,eval e X.env)::starEach es X.env:=by exact Ct rfl) (hpl:(backTo pos (starEach es X.env)).any (·.1)=false:=by exact DM rfl) :
 PE3 X (.Call (.Name x p) (e::es) [] pos) (vCB r tr):=#[Br (HM hc hg hm hv ha.out hn hdb he hpl) fun σ H Q hh=>by obtain⟨B,z,τ,R,r,ht,q⟩:=hh;exact#[B,_,τ,_,r,ht,fun ss vs H1 e1 i1 h1=>#[H1.z,ss,R,e1.sub,i1,h1,fun s v H2 e2 i2 f2 h2=>q s v H2 (e1.trans e2) i2 (JH e1 f2) h2]]]
theorem UN {α:Type}{l:List α}(h:l.length=1):∃a,l=[a]:=by
 cases l with
 |nil=>cases h
 |cons a t=>exact#[a,by rw[List.length_eq_zero_iff.mp (Nat.succ.inj h)]]
theorem VN {α:Type}{l:List α}(h:l.length=2):∃a b,l=[a,b]:=by
 cases l with
 |nil=>cases h
 |cons a t =>
  obtain⟨b,e⟩:=UN (Nat.succ.inj h)
  exact#[a,b,by rw[e]]
theorem L5 {K:W.Frag}{H:HZ}{vs:List V}{s:S}(h:Args K H vs [s]):∃v,vs=[v]/\IsS K H v s:=by
 obtain⟨hl,hv⟩:=h
 obtain⟨v,rfl⟩:=UN hl
 exact#[v,rfl,(hv 0 v s rfl rfl).1]
theorem RU {K:W.Frag}{H:HZ}{vs:List V}{s t:S}(h:Args K H vs [s,t]):∃v u,vs=[v,u]/\IsS K H v s/\IsS K H u t:=by
 obtain⟨hl,hv⟩:=h
 obtain⟨v,u,rfl⟩:=VN hl
 exact#[v,u,rfl,(hv 0 v s rfl rfl).1,(hv 1 u t rfl rfl).1]
def UC:List S->(S->Prop)->Prop:=fun ss R=>match ss with
 |[.d (.int i)]=>R (.d (.int (if i<0 then -i else i)))
 |_=>False
theorem P9:Il X (.builtin "abs") UC :=
 F9 N6 fun xs H Q hh=>by
  obtain⟨z,ss,R,hz,ha,h3,q⟩:=hh
  unfold UC at h3
  split at h3
  .rename_i i
   obtain⟨v,rfl,h⟩:=L5 ha
   cases Is.int_inv h
   exact#[i,rfl,q (.d _) _ #[H,z] (Ext.refl hz) (Is.int _) EB h3]
  .exact h3.elim
def TU:List S->(S->Prop)->Prop:=fun ss R=>match ss with
 |[s]=>match items s with
  |some xs=>R (.d (.int xs.length))
  |none=>False
 |_=>False
theorem TR:Il X (.builtin "len") TU :=
 F9 IE fun xs H Q hh=>by
  obtain⟨z,ss,R,hz,ha,h3,q⟩:=hh
  unfold TU at h3
  split at h3
  .rename_i s
   split at h3
   .rename_i ys hy
    obtain⟨v,rfl,h⟩:=L5 ha
    cases s with
    |d z =>
     cases z with
     |tup zs =>
      cases hy
      obtain⟨p,vs,rfl,h1,h2⟩:=Is.tup_inv h
      exact#[p,vs,rfl,.inr (SqT.same hz h1),by rw[h2.1];exact q (.d _) _ #[H,z] (Ext.refl hz) (Is.int _) EB h3]
     |lst zs =>
      cases hy
      obtain⟨p,vs,rfl,h1,h2⟩:=Is.lst_inv h
      exact#[p,vs,rfl,.inl (hz.seq h1),by rw[h2.1];exact q (.d _) _ #[H,z] (Ext.refl hz) (Is.int _) EB h3]
     |_=>cases hy
    |l zs =>
     cases hy
     obtain⟨p,vs,rfl,h1,h2⟩:=h
     exact#[p,vs,rfl,.inl (SqL.of h1),by rw[h2.1];exact q (.d _) _ #[H,z] (Ext.refl hz) (Is.int _) EB h3]
    |r zs =>
     cases hy
     obtain⟨p,vs,rfl,h1,h2⟩:=h
     exact#[p,vs,rfl,.inl h1,by rw[h2.1];exact q (.d _) _ #[H,z] (Ext.refl hz) (Is.int _) EB h3]
   .exact h3.elim
  .exact h3.elim
inductive Ty where
 |int|bool|tuple|str|list
def Pz:Ty->String
 |.int=>"int"
 |.bool=>"bool"
 |.tuple=>"tuple"
 |.str=>"str"
 |.list=>"list"
def TQ:Ty->S->Bool
 |.int,.d (.int _)=>true
 |.int,.d (.bl _)=>true
 |.bool,.d (.bl _)=>true
 |.tuple,.d (.tup _)=>true
 |.str,.d (.str _)=>true
 |.list,.l _=>true
 |.list,.r _=>true
 |.list,.d (.lst _)=>true
 |_,_=>false
def UA:S->Prop
 |.d (.ty _)=>False
 |.d (.ref _)=>False
 |_=>True
theorem NY (k:Ty):FN X (.builtin "isinstance") (fun xs H Q=>∃z x s,AG z H/\xs=[x,.ty (Pz k)]/\IsS X.K #[H,z] x s/\UA s/\Q (.bl (TQ k s)) H):=by
 intro pins s σ H xs us Q I rs h
 obtain⟨zz,x,z,hz,rfl,h1,h2,q⟩:=h
 obtain⟨v',u',rfl,r1,r2⟩:=Tg rs
 cases r2
 have fin:∀tk,EP X pins σ Q (.bool (TQ k z)) { s with toks:=tk }:=fun tk=>#[.bl _,H,I.tok tk,rfl,q]
 cases z with
 |d z =>
  cases z with
  |non=>cases Is.non_inv h1;exact EI I r1 .non (by cases k<;>kernel_rfl) fin
  |bl y=>cases Is.bl_inv h1;exact EI I r1 (.bl y) (by cases k<;>kernel_rfl) fin
  |int y=>cases Is.int_inv h1;exact EI I r1 (.int y) (by cases k<;>kernel_rfl) fin
  |str y=>cases Is.str_inv h1;exact EI I r1 (.str y) (by cases k<;>kernel_rfl) fin
  |ty y=>exact h2.elim
  |ref y=>exact h2.elim
  |lst y =>
   obtain⟨p,vs,rfl,g1,g2⟩:=Is.lst_inv h1
   cases r1
   obtain⟨its,_,pl,_⟩:=I.list (hz.seq g1)
   obtain⟨o,n',e1,e2,_⟩:=pl
   exact qAP qBB I.kIn #[o,e1,e2] (by cases k<;>kernel_rfl) (fun z=>nomatch z) fin
  |tup y =>
   obtain⟨p,vs,rfl,g1,g2⟩:=Is.tup_inv h1
   cases r1
   obtain⟨its,_,pl,_⟩:=I.tuple (SqT.same hz g1)
   obtain⟨o,e1,e2,_⟩:=pl
   exact qAP W.kitx_tuple I.kIn #[o,e1,e2] (by cases k<;>kernel_rfl) (fun z=>nomatch z) fin
 |l y =>
  obtain⟨p,vs,rfl,g1,g2⟩:=h1
  cases r1
  obtain⟨its,_,pl,_⟩:=I.list (SqL.of g1)
  obtain⟨o,n',e1,e2,_⟩:=pl
  exact qAP qBB I.kIn #[o,e1,e2] (by cases k<;>kernel_rfl) (fun z=>nomatch z) fin
 |r y =>
  obtain⟨p,vs,rfl,g1,g2⟩:=h1
  cases r1
  obtain⟨its,_,pl,_⟩:=I.list g1
  obtain⟨o,n',e1,e2,_⟩:=pl
  exact qAP qBB I.kIn #[o,e1,e2] (by cases k<;>kernel_rfl) (fun z=>nomatch z) fin
def UZ (k:Ty)(te:TE3):TE3:=fun τ R=>te τ fun x=>UA x/\R (.d (.bl (TQ k x)))
theorem FR (k:Ty){y:Str}{p p2:Pos}(ha:PE3 X e te) (hg:Gl X "isinstance") (hm:X.mg "isinstance"=none) (hg2:Gl X y) (hm2:X.mg y=none) (hv:bootBuiltins y=some (.type (Pz k)))
 (hn:y≠"__name__":=by decide) (hd:(y==("__debug__":Str))=false:=by decide)
 (he:starEach [e,.Name y p2] X.env=(false,eval e X.env)::starEach [.Name y p2] X.env:=by exact Ct rfl) (he2:starEach [.Name y p2] X.env=(false,eval (.Name y p2) X.env)::starEach [] X.env:=by exact Ct rfl) (hpl:(backTo pos (starEach [.Name y p2] X.env)).any (·.1)=false:=by exact DM rfl) :
 PE3 X (.Call (.Name "isinstance" p) [e,.Name y p2] [] pos) (UZ k te):=#[Br (HM (NY k) hg hm PyProof.Rows.boot_isinstance (Ak ha.out (Ak (PD (v:=.ty (Pz k)) hg2 hm2 hv rfl hn hd) AA he2) he) (he:=he) (hpl:=hpl)) fun σ H Q #[B,z,τ,R,r,ht,q] =>
 #[B,_,τ,_,r,ht,fun s v H1 e1 i1 f1 h1=>#[H1.z,v,s,e1.sub,rfl,i1,h1.1,q (.d _) _ H1 e1 (Is.bl _) EB h1.2]]]
abbrev Sp3:=List S->(S->Prop)->(Str->Prop)->Prop
def Ag (K:W.Frag)(mg:Str->Option Value)(sp:Sp3):Sp:=fun vs H Q E=>∃z ss R U,AG z H/\Args K #[H,z] vs ss/\sp ss R U/\(∀s v q,Ext #[H,z] q->IsS K q v s->Fr3 K #[H,z] q v s->R s->Q v q.h) /\
 ∀x C H',AG H H'->mg x=some (.ref C)->U x->E (.ref C) none H'
structure Cal (P:Program)(w:World)(K:W.Frag)(mg:Str->Option Value)(base:Heap)(CX:CXT)(k:Nat)(x:Str)(ps:List Str)(sp:Sp3):Prop where
 ex:∃f fd,Az P w K mg base CX k f fd ps (Ag K mg sp)/\mg x=some (.ref f)/\W.keepIn K (.ref f)=true/\JE K fd ps []
def NoU:Str->Prop:=fun _=>False
variable {st:Stmt}{rest':List Stmt}{t u:TS3}
def Ua:TS3:=fun D3 τ=>D3.nx τ
def VC (t u:TS3):TS3:=fun D3 τ=>t { D3 with nx:=u D3 } τ
def Ve (t u:TS3):TS3:=fun D3 τ=>∃mid:Tau->Prop,t { D3 with nx:=mid } τ/\∀τ',mid τ'->u D3 τ'
theorem Ap:CY X [] Ua:=#[Fv Fn fun _ _ _ #[_,_,_,_,r,ht,c]=>c.nx _ _ _ r ht]
theorem Ai (h:PS3 X st t):CY X [st] t:=#[Qa h.out]
theorem Aa (h1:PS3 X st t)(h2:CY X rest' u):CY X (st::rest') (VC t u):=#[Fv (Bw h1.out h2.out) fun D2 σ H hh=>by obtain⟨B,z,τ,D3,r,ht,c⟩:=hh;exact#[B,_,τ,{ D3 with nx:=u D3 },r,ht,#[fun τ' σ' p' r' h'=>#[B,_,τ',D3,r',h',c],c.bk,c.ct,c.rt]]]
theorem BV (h1:PS3 X st t)(h2:CY X rest' u):CY X (st::rest') (Ve t u):=#[Fv (Bw h1.out h2.out) fun D2 σ H #[B,z,τ,D3,r,#[mid,ht,hm],c]=>#[B,_,τ,{ D3 with nx:=mid },r,ht,#[fun τ' σ' p' r' h'=>#[B,_,τ',D3,r',hm τ' h',c],c.bk,c.ct,c.rt]]]
def sGd (t u:TS3):TS3:=fun D3 τ=>t { D3 with nx:=fun τ'=>τ'=τ } τ/\u D3 τ
theorem GK (h1:PS3 X st t)(h2:CY X rest' u):CY X (st::rest') (sGd t u):=#[Fv (BV h1 h2).out fun D2 σ H #[B,z,τ,D3,r,#[ht,hu],c]=>#[B,_,τ,D3,r,#[fun τ'=>τ'=τ,ht,fun τ' e=>by subst e;exact hu],c]]
def Sn:TS3:=fun _ _=>False
theorem MT:PS3 X st Sn:=#[BK Oi fun _ _ _ #[_,_,_,_,_,h,_]=>h.elim]
def Uz (te:TE3):TS3:=fun D3 τ=>te τ fun _=>D3.nx τ
theorem Kw (he:PE3 X e te)(hs:swapsWith e none pos.line X.env=pure false:=by rfl):PS3 X (.Expr e pos) (Uz te):=#[BK (Bg he.out hs) fun D2 σ H hh=>by obtain⟨B,z,τ,D3,r,ht,c⟩:=hh;exact#[B,_,τ,_,r,ht,fun s v H' e i f h=>c.nx _ _ _ (r.mono e) h]]
def UJ (te:TE3):TS3:=fun D3 τ=>te τ D3.rt
theorem Ue (he:PE3 X e te):PS3 X (.Return (some e) pos) (UJ te):=#[BK (IL he.out) fun D2 σ H hh=>by obtain⟨B,z,τ,D3,r,ht,c⟩:=hh;exact#[B,_,τ,_,r,ht,fun s v H' e i f h=>c.rt s v H' (r.ext.trans e) i (JH r.ext f) h]]
def Rc (i:Nat):TS3:=fun D3 τ=>match τ[i]? with
 |some (some s)=>D3.rt s
 |_=>False
theorem E4 {i:Nat}{x:Str}{pos':Pos}(h:PE X (.Name x pos') (Dd i)):PS3 X (.Return (some (.Name x pos')) pos) (Rc i):=#[BK (IL h) fun D2 σ H hh=>by
 obtain⟨B,z,τ,D3,r,ht,c⟩:=hh
 unfold Rc at ht
 split at ht
 .rename_i s hs
  obtain⟨v,h1,h2⟩:=r.val i s hs
  exact#[v,h1,c.rt s v #[H,z] r.ext h2 (fun xs a e1 e2=>r.own i xs a (by rw[<-e1];exact hs) (by rw[<-e2];exact h1)) ht]
 .exact ht.elim]
def sIf (c:TT3)(t u:TS3):TS3:=fun D3 τ=>c τ fun b=>if b=true then t D3 τ else u D3 τ
theorem B0 {c:Expr}{as bs:List Stmt}{tc:TT3}(hc:PT3 X c tc) (ha:CY X as t) (hb:CY X bs u):PS3 X (.If c as bs pos) (sIf tc t u):=#[BK (QY hc.out ha.out hb.out) fun D2 σ H hh=>by obtain⟨B,z,τ,D3,r,ht,c⟩:=hh;exact#[B,_,τ,_,r,ht,fun b H1 e h=>by
 cases b with
 |true=>rw[if_pos rfl] at h ⊢;exact#[B,_,τ,D3,r.mono e,h,c]
 |false=>rw[if_neg qAm] at h ⊢;exact#[B,_,τ,D3,r.mono e,h,c]]]
def S9 (i:Nat)(te:TE3):TS3:=fun D3 τ=>te τ fun s=>match s with
 |.r _=>False
 |.d x=>D3.nx (τ.set i (some (.d x)))
 |.l xs=>D3.nx (τ.set i (some (.l xs)))
theorem T3 {i:Nat}{x:Str}{pos':Pos}(hN:X.N.Nodup) (hi:X.N[i]? = some x) (hx:Loc X.env.scope x) (he:PE3 X e te) (hs:swapsWith e (some (.Name x pos')) pos.line X.env=pure false:=by rfl) (hf:X.fn x=true\/X.env.scope.names.lookup x=some .local:=by first|exact .inl rfl|exact .inr rfl|assumption) (hp:Dz X i:=by first|exact CZ rfl|exact pin_ne rfl ∅|assumption) :
 PS3 X (.Assign [.Name x pos'] e pos) (S9 i te):=#[BK (MH hN hi hx he.out hs hf) fun D2 σ H hh=>by obtain⟨B,z,τ,D3,r,ht,c⟩:=hh;exact#[B,_,τ,_,r,ht,fun s v H' e i f h=>by
 cases s with
 |r _=>exact h.elim
 |d y=>exact c.nx _ _ _ (r.set e i f rfl hp) h
 |l ys=>exact c.nx _ _ _ (r.set e i f rfl hp) h]]
theorem Rep.push {B:HZ}{H z:Hp}{τ:Tau}{σ:St}{i:Nat}{xs:List D}{l:Addr}{vs:List V}{w:V}{d:D}(r:Rep X B τ σ #[H,z]) (hi:τ[i]? = some (some (.l xs))) (hσ:σ[i]? = some (some (.ref l)))
 (hl:H l=some (.lst vs)) (hv:Iss X.K z vs xs) (iw:Is X.K z w d):Rep X B (τ.set i (some (.l (xs++[d])))) σ #[upd H l (.lst (vs++[w])),z]:=by
 obtain⟨o1,o2,o3⟩:=r.own i xs l hi hσ
 refine#[by simp[r.len],#[fun b o h=>?_,r.ext.zz,fun b o h=>?_,r.ext.new],fun j s hj=>?_,fun j ys a hj ha=>?_,fun j k ys s a hjk hj hk hs ha=>?_,r.top,r.pin]
 .have hb:b≠l:=by
   rintro rfl
   rw[h] at o1
   cases o1
  show upd H l _ b=some o
  rw[Af hb]
  exact r.ext.hh b o h
 .have hb:b≠l:=by
   rintro rfl
   have h':z b=some o:=h
   rw[show z b=none from o3] at h'
   cases h'
  show upd H l _ b=some o
  rw[Af hb]
  exact r.ext.sub b o h
 .rcases Au hj with⟨rfl,rfl⟩|⟨hn,hj⟩
  .exact#[.ref l,hσ,l,_,rfl,Aj,hv.snoc iw]
  .obtain⟨v,h1,h2⟩:=r.val j s hj
   refine#[v,h1,?_]
   cases s with
   |d x=>exact h2
   |l ys =>
    obtain⟨b,ws,rfl,h3,h4⟩:=h2
    have hb:b≠l:=by
     rintro rfl
     exact r.sep i j xs (.l ys) b (fun z=>hn z.symm) hi hj rfl hσ h1
    exact#[b,ws,rfl,by show upd H l _ b=_;rw[Af hb];exact h3,h4]
   |r ys =>
    obtain⟨b,ws,rfl,h3,h4⟩:=h2
    have hb:b≠l:=by
     rintro rfl
     exact r.sep i j xs (.r ys) b (fun z=>hn z.symm) hi hj rfl hσ h1
    refine#[b,ws,rfl,?_,h4]
    rcases h3 with (h3|⟨o,h3⟩)|h3
    .exact .inl (.inl (by show upd H l _ b=_;rw[Af hb];exact h3))
    .exact .inl (.inr #[o,by show upd H l _ b=_;rw[Af hb];exact h3])
    .exact .inr h3
 .rcases Au hj with⟨rfl,_⟩|⟨hn,hj⟩
  .exact r.own j xs a hi ha
  .exact r.own j ys a hj ha
 .rcases Au hj with⟨rfl,_⟩|⟨hn,hj'⟩
  .rcases Au hk with⟨e3,_⟩|⟨hkn,hk'⟩
   .exact absurd e3.symm hjk
   .exact r.sep j k xs s a hjk hi hk' hs ha
  .rcases Au hk with⟨rfl,rfl⟩|⟨hkn,hk'⟩
   .exact r.sep j k ys (.l xs) a hjk hj' hi rfl ha
   .exact r.sep j k ys s a hjk hj' hk' hs ha
def UB (i:Nat)(te:TE3):TS3:=fun D3 τ=>match τ[i]? with
 |some (some (.l xs))=>te τ fun s=>dd s.arg fun d=>xs.length<16000000/\D3.nx (τ.set i (some (.l (xs++[d]))))
 |_=>False
theorem Fb {i:Nat}{o:Expr}{apos cpos:Pos}(h:PS X (.Expr (.Call (.Attribute o "append" apos) [e] [] cpos) pos) (Jn (tBM X.K "list" Fl (Dd i) (AY (FE X te) GA)))) :
 PS3 X (.Expr (.Call (.Attribute o "append" apos) [e] [] cpos) pos) (UB i te):=#[BK h fun D2 σ H hh=>by
 obtain⟨B,z,τ,D3,r,ht,c⟩:=hh
 unfold UB at ht
 split at ht
 .rename_i xs hs
  obtain⟨v,h1,a,vs,rfl,h2,h3⟩:=r.val i _ hs
  refine#[.ref a,h1,.inl #[rfl,vs,SqL.of h2],B,_,τ,_,r,ht,fun s v H' e i' f h=>?_]
  obtain⟨d,hd,h4,h5⟩:=C0 h
  obtain⟨z',e',i''⟩:=DG e i' f
  rw[hd] at i''
  have sz:(16000000:Nat)<sizeLine:=∅
  exact#[a,vs,v,rfl,rfl,e.hh _ _ h2,by rw[h3.1];omega,c.nx _ _ _ ((r.mono e').push hs h1 (e.hh _ _ h2) (h3.mono e'.zz) i'') h5]
 .exact ht.elim]
def Se (c:TT3)(tb:TS3):TS3:=fun D3 τ=>∃W:Nat->Tau->Prop,(∃m,W m τ)/\∀m τ,W m τ ->
 c τ fun b=>if b=true then tb { D3 with nx:=fun τ'=>∃m',m'<m/\W m' τ',ct:=fun τ'=>∃m',m'<m/\W m' τ',bk:=D3.nx } τ else D3.nx τ
theorem Fu {c:Expr}{body:List Stmt}{tc:TT3}{tb:TS3}(hp:PassesOwn (model X.prog X.w) X.A X.env X.xe) (hc:PT3 X c tc) (hb:CY X body tb):PS3 X (.While c body [] pos) (Se tc tb):=#[BK (N2 hp hc.out hb.out) fun D2 σ H hh=>by
 obtain⟨B,z,τ,D3,r,⟨W,⟨m0,w0⟩,turn⟩,c⟩:=hh
 refine#[fun m σ H=>∃z τ,Rep X B τ σ #[H,z]/\W m τ,#[m0,z,τ,r,w0],?_]
 rintro m σ1 H1 ⟨z1,τ1,r1,w1⟩
 refine#[B,_,τ1,_,r1,turn m τ1 w1,fun b H2 e h=>?_]
 cases b with
 |true =>
  rw[if_pos rfl] at h ⊢
  refine#[fun σ' H'=>∃m',m'<m/\∃z τ,Rep X B τ σ' #[H',z]/\W m' τ,fun σ' H' #[m',h1,h2]=>#[m',h1,h2],B,_,τ1,_,r1.mono e,h,#[?_,c.nx,?_,c.rt]]
  .rintro τ' σ' p' r' ⟨m',h1,h2⟩
   exact#[m',h1,p'.z,τ',r',h2]
  .rintro τ' σ' p' r' ⟨m',h1,h2⟩
   exact#[m',h1,p'.z,τ',r',h2]
 |false =>
  rw[if_neg qAm] at h ⊢
  exact c.nx _ _ _ (r1.mono e) h]
def GD (i:Nat)(xs:List D)(tb:TS3)(D3:HG)(τ0:Tau):Prop:=∃I:Nat->Tau->Prop,I 0 τ0 /\
 (∀n τ x,xs[n]? = some x->I n τ->tb { D3 with nx:=I (n+1),ct:=I (n+1),bk:=D3.nx } (τ.set i (some (.d x))))/\∀τ,I xs.length τ->D3.nx τ
theorem Rep.setd {B p:HZ}{τ:Tau}{σ:St}{i:Nat}{v:V}{x:D}(r:Rep X B τ σ p) (h:Is X.K p.z v x) (hp:Dz X i):Rep X B (τ.set i (some (.d x))) (σ.set i (some v)) p :=
 r.set (s:=.d x) (Ext.refl r.ext.sub) h EB rfl hp
theorem Q3.inB {B B':HZ}{D3:HG}{D2:GB}{I:Tau->Prop}{N:St->Hp->Prop}(e:LeB X B B') (c:Q3 X B D3 D2) (hN:∀τ σ p,Rep X B' τ σ p->I τ->N σ p.h) :
 Q3 X B' { D3 with nx:=I,ct:=I,bk:=D3.nx } { D2 with nx:=N,ct:=N,bk:=D2.nx } :=
 #[hN,fun τ σ H r h=>c.nx τ σ H (r.outB e) h,hN,fun s v q h1 h2 h3 h4=>c.rt s v q (e.ext h1) h2 (fun xs a x1 x2=>#[e.hh.free (h3 xs a x1 x2).1,(h3 xs a x1 x2).2]) h4]
theorem Dl {K:W.Frag}{H:Hp}{vs:List V}{xs:List D}{n:Nat}{v:V}(h:Iss K H vs xs) (e:vs[n]? = some v):∃x,xs[n]? = some x/\Is K H v x:=by
 have hn:=(qAf.mp e).1
 have hx:xs[n]? = some (xs[n]'(by rw[<-h.1];exact hn)):=qAb (by rw[<-h.1];exact hn)
 exact#[_,hx,h.2 n v _ e hx]
theorem HH {B:HZ}{τ:Tau}{σ:St}{H z:Hp}{D2:GB}{D3:HG}{a:Addr}{vs:List V}{xs:List D}{i:Nat}{tb:TS3}(r:Rep X B τ σ #[H,z]) (c:Q3 X B D3 D2) (hs:SqL X.K H a vs) (hv:Iss X.K z vs xs)
 (hno:∀(j:Nat)(ys:List D),τ[j]? = some (some (S.l ys))->σ[j]?≠some (some (V.ref a))) (h:GD i xs tb D3 τ) (hp:Dz X i) :
 ∃W:Nat->Nat->St->Hp->Prop,(∃m,W 0 m σ H)/\∀n m σ H,W n m σ H ->
  ((Itl X.K a).stop n H/\D2.nx σ H)\/((Itl X.K a).go n H/\∃N:St->Hp->Prop,(∀σ' H',N σ' H'->∃m',m'<m/\W (n+1) m' σ' H')/\∀x H',(Itl X.K a).yld n H x H'->CC i x σ H' fun σ2 H2=>FS X tb { D2 with nx:=N,ct:=N,bk:=D2.nx } σ2 H2):=by
 obtain⟨I,i0,turn,out⟩:=h
 have hB:SqL X.K (Ie τ σ H) a vs:=by
  rcases hs with (hs|⟨o,hs⟩)|hs
  .exact .inl (.inl (by rw[Dt hno];exact hs))
  .exact .inl (.inr #[o,by rw[Dt hno];exact hs])
  .exact .inr hs
 refine ND (K:=X.K) (a:=a) (xs:=vs) (g:=CC i) (tb:=FS X tb) (D:=D2) (fun n σ1 H1=>∃z1 τ1,Rep X #[Ie τ σ H,z] τ1 σ1 #[H1,z1]/\I n τ1) #[z,τ,r.inB,i0] (fun n σ1 H1 _ #[z1,τ1,r1,_]=>r1.ext.hh.seq hB) ?_ ?_
 .rintro n v σ1 H1 hn ⟨z1,τ1,r1,i1⟩
  obtain⟨x,hx,ix⟩:=Dl hv hn
  exact#[_,_,_,_,r1.setd (ix.mono r1.ext.zz) hp,turn n τ1 x hx i1,c.inB r.leB fun τ' σ' p' r' h'=>#[p'.z,τ',r',h']]
 .rintro σ1 H1 ⟨z1,τ1,r1,i1⟩
  exact c.nx _ _ _ (r1.outB r.leB) (out τ1 (by rw[<-hv.1];exact i1))
theorem OQ {B:HZ}{τ:Tau}{σ:St}{H z:Hp}{D2:GB}{D3:HG}{a:Addr}{vs:List V}{xs:List D}{i:Nat}{tb:TS3}(r:Rep X B τ σ #[H,z]) (c:Q3 X B D3 D2) (hs:SqT X.K z a vs) (hv:Iss X.K z vs xs)
 (h:GD i xs tb D3 τ) (hp:Dz X i) :
 ∃W:Nat->Nat->St->Hp->Prop,(∃m,W 0 m σ H)/\∀n m σ H,W n m σ H ->
  ((Itt X.K a).stop n H/\D2.nx σ H)\/((Itt X.K a).go n H/\∃N:St->Hp->Prop,(∀σ' H',N σ' H'->∃m',m'<m/\W (n+1) m' σ' H')/\∀x H',(Itt X.K a).yld n H x H'->CC i x σ H' fun σ2 H2=>FS X tb { D2 with nx:=N,ct:=N,bk:=D2.nx } σ2 H2):=by
 obtain⟨I,i0,turn,out⟩:=h
 refine PM (K:=X.K) (a:=a) (xs:=vs) (g:=CC i) (tb:=FS X tb) (D:=D2) (fun n σ1 H1=>∃z1 τ1,Rep X #[Ie τ σ H,z] τ1 σ1 #[H1,z1]/\I n τ1) #[z,τ,r.inB,i0] (fun n σ1 H1 _ #[z1,τ1,r1,_]=>SqT.same (r1.ext.zz.trans r1.ext.sub) hs) ?_ ?_
 .rintro n v σ1 H1 hn ⟨z1,τ1,r1,i1⟩
  obtain⟨x,hx,ix⟩:=Dl hv hn
  exact#[_,_,_,_,r1.setd (ix.mono r1.ext.zz) hp,turn n τ1 x hx i1,c.inB r.leB fun τ' σ' p' r' h'=>#[p'.z,τ',r',h']]
 .rintro σ1 H1 ⟨z1,τ1,r1,i1⟩
  exact c.nx _ _ _ (r1.outB r.leB) (out τ1 (by rw[<-hv.1];exact i1))
def QW (K:W.Frag)(tl:TE):TI:=fun σ H R=>tl σ H fun x H1=>∃a,x=.ref a/\(((∃xs,SqL K H1 a xs)/\R (Itl K a) H1)\/((∃xs,SqT K H1 a xs)/\R (Itt K a) H1))
theorem C4 {tg l:Expr}{tl:TE}(hl:PE X l tl):PI X tg l (QW X.K tl):=by
 intro pins s σ H R I h
 refine thn (hl pins s σ H _ I h) fun v s1 hh9=>?_
 obtain⟨x,H1,I1,r1,q1⟩:=hh9
 obtain⟨a,e,⟨⟨xs,hq⟩,q⟩|⟨⟨xs,hq⟩,q⟩⟩:=q1
 .subst e
  cases r1
  obtain⟨its,rv,p,hz⟩:=I1.list hq
  refine wpAny_pyIter_list p.isList ?_
  refine#[s1.heap.objs.size,[s1.heap.objs.size],_,_,H1,rfl,I1.kept (t':=s1.toks) fun b o e=>qAe _ e,Mb a _,#[_,qAA _ rfl,rfl,rfl],fun b hb=>?_,q]
  have e:b=s1.heap.objs.size:=by simpa using hb
  subst e
  exact I1.fpOk (qAd _) (I1.hok.fresh (qAd _))
 .subst e
  cases r1
  obtain⟨its,rv,p,hz⟩:=I1.tuple hq
  refine wpAny_pyIter_tuple (show s1.heap.IsTuple a its.toArray from p) ?_
  refine#[s1.heap.objs.size,[s1.heap.objs.size],_,_,H1,rfl,I1.kept (t':=s1.toks) fun b o e=>qAe _ e,Lh a _,#[_,qAA _ rfl,rfl,rfl],fun b hb=>?_,q]
  have e:b=s1.heap.objs.size:=by simpa using hb
  subst e
  exact I1.fpOk (qAd _) (I1.hok.fresh (qAd _))
theorem Rep.notown {B:HZ}{τ:Tau}{σ:St}{p:HZ}{a:Addr}{o:HO}(r:Rep X B τ σ p) (h:p.z a=some o):∀(j:Nat)(ys:List D),τ[j]? = some (some (S.l ys))->σ[j]?≠some (some (V.ref a)):=fun j ys h1 h2=>by
 have:=(r.own j ys a h1 h2).2.2
 rw[h] at this
 cases this
theorem Ft {B:HZ}{τ:Tau}{σ:St}{p:HZ}{a:Addr}{vs:List V}(r:Rep X B τ σ p) (h:SqL X.K p.z a vs):∀(j:Nat)(ys:List D),τ[j]? = some (some (S.l ys))->σ[j]?≠some (some (V.ref a)):=by
 rcases h with (h|⟨o,h⟩)|⟨o,its,n,h,_⟩
 .exact r.notown h
 .exact r.notown h
 .intro j ys h1 h2
  have:=(r.own j ys a h1 h2).2.1
  rw[h] at this
  cases this
def Sa (j i:Nat)(tb:TS3):TS3:=fun D3 τ=>match τ[j]? with
 |some (some (.d (.tup xs)))=>GD i xs tb D3 τ
 |some (some (.d (.lst xs)))=>GD i xs tb D3 τ
 |some (some (.l xs))=>GD i xs tb D3 (τ.set j (some (.r xs)))
 |some (some (.r xs))=>GD i xs tb D3 (τ.set j (some (.r xs)))
 |_=>False
theorem IH {j i:Nat}{x y:Str}{px py:Pos}{body:List Stmt}{tb:TS3}(h:PS X (.For (.Name x px) (.Name y py) body [] pos) (NG (QW X.K (Dd j)) (CC i) (FS X tb))) (hp:Dz X i:=by first|exact CZ rfl|exact pin_ne rfl ∅|assumption):PS3 X (.For (.Name x px) (.Name y py) body [] pos) (Sa j i tb):=#[BK h fun D2 σ H hh=>by
 obtain⟨B,z,τ,D3,r,ht,c⟩:=hh
 have lists:∀(s:S)(xs:List D),τ[j]? = some (some s)->s.share=.r xs->GD i xs tb D3 (τ.set j (some (.r xs)))->NG (QW X.K (Dd j)) (CC i) (FS X tb) D2 σ H:=fun s xs hs hx ht=>by
  obtain⟨v,h1,h2⟩:=r.val j s hs
  have h2':=h2.share
  rw[hx] at h2'
  obtain⟨a,vs,rfl,h3,h4⟩:=h2'
  have r':=r.freeze hs hx
  refine#[.ref a,h1,a,rfl,.inl #[#[vs,h3],HH r' c h3 h4 (fun m ys hm hσ=>?_) ht hp]]
  rcases Au hm with⟨rfl,z⟩|⟨hn,hm'⟩
  .cases z
  .have hl:j<τ.length:=(qAf.mp hs).1
   exact r'.sep m j ys (.r xs) a hn hm (by rw[qBa hl]) rfl hσ h1
 unfold Sa at ht
 split at ht
 .rename_i xs hs
  obtain⟨v,h1,h2⟩:=r.val j _ hs
  obtain⟨a,vs,rfl,h3,h4⟩:=Is.tup_inv h2
  exact#[.ref a,h1,a,rfl,.inr #[#[vs,SqT.same r.ext.sub h3],OQ r c h3 h4 ht hp]]
 .rename_i xs hs
  obtain⟨v,h1,h2⟩:=r.val j _ hs
  obtain⟨a,vs,rfl,h3,h4⟩:=Is.lst_inv h2
  exact#[.ref a,h1,a,rfl,.inl #[#[vs,r.ext.sub.seq h3],HH r c (r.ext.sub.seq h3) h4 (Ft r h3) ht hp]]
 .rename_i xs hs
  exact lists _ xs hs rfl ht
 .rename_i xs hs
  exact lists _ xs hs rfl ht
 .exact ht.elim]
def Ui (i:Nat)(te:TE3)(tb:TS3):TS3:=fun D3 τ=>te τ fun s=>match s with
 |.l xs=>GD i xs tb D3 τ
 |.d (.tup xs)=>GD i xs tb D3 τ
 |.d (.lst xs)=>GD i xs tb D3 τ
 |_=>False
theorem Kx {i:Nat}{x:Str}{px:Pos}{body:List Stmt}{tb:TS3}(h:PS X (.For (.Name x px) e body [] pos) (NG (QW X.K (FE X te)) (CC i) (FS X tb))) (hp:Dz X i:=by first|exact CZ rfl|exact pin_ne rfl ∅|assumption):PS3 X (.For (.Name x px) e body [] pos) (Ui i te tb):=#[BK h fun D2 σ H hh=>by
 obtain⟨B,z,τ,D3,r,ht,c⟩:=hh
 refine#[B,_,τ,_,r,ht,fun s v H1 e1 i1 f1 h1=>?_]
 split at h1
 .rename_i xs
  obtain⟨a,vs,rfl,h3,h4⟩:=i1
  refine#[a,rfl,.inl #[#[vs,SqL.of h3],HH (r.mono e1) c (SqL.of h3) h4 (fun m ys hm hσ=>?_) h1 hp]]
  obtain⟨ws,hw,_⟩:=r.own_list hm hσ
  have:=(f1 xs a rfl rfl).1
  rw[hw] at this
  cases this
 .rename_i xs
  obtain⟨a,vs,rfl,h3,h4⟩:=Is.tup_inv i1
  exact#[a,rfl,.inr #[#[vs,SqT.same e1.sub h3],OQ (r.mono e1) c h3 h4 h1 hp]]
 .rename_i xs
  obtain⟨a,vs,rfl,h3,h4⟩:=Is.lst_inv i1
  exact#[a,rfl,.inl #[#[vs,e1.sub.seq h3],HH (r.mono e1) c (e1.sub.seq h3) h4 (Ft (r.mono e1) h3) h1 hp]]
 .exact h1.elim]
def UL (i:Nat)(t:TS3):TS3:=fun D3 τ=>match τ[i]? with
 |some (some (.l xs))=>t D3 (τ.set i (some (.d (.lst xs))))
 |_=>False
theorem Pc {sts:List Stmt}(i:Nat) (h:CY X sts t):CY X sts (UL i t):=#[Fv h.out fun D2 σ H hh=>by
 obtain⟨B,z,τ,D3,r,ht,c⟩:=hh
 unfold UL at ht
 split at ht
 .rename_i xs hs
  obtain⟨z',r'⟩:=r.data hs
  exact#[B,z',_,D3,r',ht,c]
 .exact ht.elim]
def UW (i:Nat)(lo st:Int)(cnt:Nat)(tb:TS3)(D3:HG)(τ0:Tau):Prop:=∃I:Nat->Tau->Prop,I 0 τ0 /\
 (∀(n:Nat) τ,n<cnt->I n τ->tb { D3 with nx:=I (n+1),ct:=I (n+1),bk:=D3.nx } (τ.set i (some (.d (.int (lo+n*st))))))/\∀τ,I cnt τ->D3.nx τ
def Uu (i:Nat)(ta:TA3)(tb:TS3):TS3:=fun D3 τ=>ta τ fun ss=>match ss with
 |[.d (.int j)]=>(-(2^62)<=j/\j<2^62)/\UW i 0 1 j.toNat tb D3 τ
 |_=>False
theorem Jb {i:Nat}{x:Str}{px:Pos}{body:List Stmt}{tb:TS3}{ta:TA3}(h:PS X (.For (.Name x px) e body [] pos) (NG (Ql (FA X ta)) (CC i) (FS X tb))) (hp:Dz X i:=by first|exact CZ rfl|exact pin_ne rfl ∅|assumption):PS3 X (.For (.Name x px) e body [] pos) (Uu i ta tb):=#[BK h fun D2 σ H hh=>by
 obtain⟨B,z,τ,D3,r,ht,c⟩:=hh
 refine#[B,_,τ,_,r,ht,fun ss vs H1 e1 i1 h1=>?_]
 split at h1
 .rename_i j
  obtain⟨v,rfl,hv⟩:=L5 i1
  cases Is.int_inv hv
  obtain⟨⟨q1,q2⟩,I,i0,turn,out⟩:=h1
  refine#[j,rfl,q1,q2,ID (lo:=0) (n:=j.toNat) (g:=CC i) (tb:=FS X tb) (D:=D2) (fun n σ1 H1=>∃z1 τ1,Rep X B τ1 σ1 #[H1,z1]/\I n τ1) #[_,τ,r.mono e1,i0] ?_ ?_]
  .rintro n σ1 H1 hn ⟨z1,τ1,r1,i1⟩
   have tt:=turn n τ1 hn i1
   rw[qBI] at tt
   exact#[B,_,_,_,r1.setd (.int _) hp,tt,c.inB r.leR fun τ' σ' p' r' h'=>#[p'.z,τ',r',h']]
  .rintro σ1 H1 ⟨z1,τ1,r1,i1⟩
   exact c.nx _ _ _ r1 (out τ1 i1)
 .exact h1.elim]
def Tj (i:Nat)(ta:TA3)(tb:TS3):TS3:=fun D3 τ=>ta τ fun ss=>match ss with
 |[.d (.int a),.d (.int j)]=>(-(2^62)<=a/\a<2^62/\-(2^62)<=j/\j<2^62)/\UW i a 1 (j-a).toNat tb D3 τ
 |_=>False
theorem GZ {i:Nat}{x:Str}{px:Pos}{body:List Stmt}{tb:TS3}{ta:TA3}(h:PS X (.For (.Name x px) e body [] pos) (NG (Pr (FA X ta)) (CC i) (FS X tb))) (hp:Dz X i:=by first|exact CZ rfl|exact pin_ne rfl ∅|assumption):PS3 X (.For (.Name x px) e body [] pos) (Tj i ta tb):=#[BK h fun D2 σ H hh=>by
 obtain⟨B,z,τ,D3,r,ht,c⟩:=hh
 refine#[B,_,τ,_,r,ht,fun ss vs H1 e1 i1 h1=>?_]
 split at h1
 .rename_i a j
  obtain⟨v,u,rfl,hv,hu⟩:=RU i1
  cases Is.int_inv hv
  cases Is.int_inv hu
  obtain⟨q1,I,i0,turn,out⟩:=h1
  refine#[a,j,rfl,q1,ID (lo:=a) (n:=(j-a).toNat) (g:=CC i) (tb:=FS X tb) (D:=D2) (fun n σ1 H1=>∃z1 τ1,Rep X B τ1 σ1 #[H1,z1]/\I n τ1) #[_,τ,r.mono e1,i0] ?_ ?_]
  .rintro n σ1 H1 hn ⟨z1,τ1,r1,i1⟩
   have tt:=turn n τ1 hn i1
   rw[qBI] at tt
   exact#[B,_,_,_,r1.setd (.int _) hp,tt,c.inB r.leR fun τ' σ' p' r' h'=>#[p'.z,τ',r',h']]
  .rintro σ1 H1 ⟨z1,τ1,r1,i1⟩
   exact c.nx _ _ _ r1 (out τ1 i1)
 .exact h1.elim]
end
def DS (N:List Str)(ss:List S):Tau:=ss.map some++List.replicate (N.length-ss.length) none
theorem IG {α:Type}{ss:List α}{m i:Nat}{s:α}(h:(ss.map some++List.replicate m (none:Option α))[i]? = some (some s)):ss[i]? = some s:=by
 by_cases hi:i<ss.length
 .rw[qAI (by simpa using hi),qAh] at h
  cases e:ss[i]? with
  |none=>rw[e] at h;cases h
  |some a=>rw[e] at h;cases h;rfl
 .rw[qAK (by simpa using hi),qCz] at h
  split at h<;>cases h
theorem ED {X:Cx}{p:HZ}{N:List Str}{vs:List V}{ss:List S}(h:Args X.K p vs ss) (hz:AG p.z p.h) (ht:AG X.H₀ p.h) (hl:X.lent=none:=by rfl):Rep X p (DS N ss) (L2.start N vs) p:=by
 have no:∀(i:Nat)(xs:List D),¬(DS N ss)[i]? = some (some (.l xs)):=fun i xs z=>by
  have z':=IG z
  have hi:=(qAf.mp z').1
  have hv:vs[i]? = some (vs[i]'(by rw[h.1];exact hi)):=qAb (by rw[h.1];exact hi)
  have:=(h.2 i _ _ hv z').2
  cases this
 refine#[by unfold L2.start DS;simp[h.1],Ext.refl hz,fun i s hs=>?_,fun i xs a z _=>absurd z (no i xs),fun i j xs s a _ z _ _ _=>absurd z (no i xs),fun _=>ht,fun k a hk=>by rw[hl] at hk;cases hk]
 have z':=IG hs
 have hi:=(qAf.mp z').1
 have hl:i<vs.length:=by rw[h.1];exact hi
 have hv:vs[i]? = some vs[i]:=qAb hl
 refine#[vs[i],?_,(h.2 i _ _ hv z').1]
 unfold L2.start
 rw[qAI (by simpa using hl),qAh,hv]
 rfl
section
variable {P:Program}{w:World}{K:W.Frag}{mg:Str->Option Value}{base:Heap}
theorem fn3 {x qual:Str}{st:Stmt}{f:Addr}{fd:FuncData}{N ps:List Str}{k:Nat}{sp:Sp3}(F:Fun K x qual st f fd) (Sc:Ae N ps (Ac st)) (len:∀ss R U,sp ss R U->ss.length=ps.length)
 (hbody:∀(cdv:Value)(A:Around)(outer:List Env)(s:Shared)(H:Hp)(E:XK)(ss:List S)(R:S->Prop)(U:Str->Prop),Eh k (A.deeper (envOfC qual (Ac st) s.heap.objs.size f cdv))->sp ss R U ->
  ∃t,CY (JB CX0 P w K mg base N qual (Ac st) f cdv A outer s H E).nox (B4 st) t/\t { nx:=fun _=>R (.d .non),rt:=R } (DS N ss)):Az P w K mg base CX0 (k+1) f fd ps (Ag K mg sp):=by
 refine F.ok Sc (fun vs H Q E hh=>by obtain⟨z,ss,R,U,hz,ha,h3,_⟩:=hh;exact ha.1.trans (len ss R U h3)) fun cdv A outer s H vs Q E hr hh9=>?_
 obtain⟨z,ss,R,U,hz,ha,h3,q,qe⟩:=hh9
 obtain⟨t,ht,hq⟩:=hbody cdv A outer s H E ss R U hr h3
 exact#[_,ht.out,#[H,z],z,DS N ss,_,ED ha hz (AG.refl H),hq,#[fun τ σ p r h=>q (.d .non) _ p r.ext Is.non EB h,fun _ _ _ _ z=>z.elim,fun _ _ _ _ z=>z.elim,fun s v p e i f h=>q s v p e i f h]]
end
def JW:Sp3:=fun ss R _=>∃ns:List Int,ss=[.r (ns.map D.int)]/\ns.length<=63/\R (.d (.bl true))
theorem HF {K:W.Frag}{H:Hp}(ns:List Int):Iss K H (ns.map V.int) (ns.map D.int):=by
 refine#[by simp,fun i v x h1 h2=>?_]
 rw[qAh] at h1 h2
 cases e:ns[i]? with
 |none=>rw[e] at h1;cases h1
 |some n =>
  rw[e] at h1 h2
  cases h1
  cases h2
  exact .int n
section
variable {X:Cx}{tg:Expr}
variable {e:Expr}{pos:Pos}
end
def JL:D->Bool
 |.non=>true
 |.bl _=>true
 |.int _=>true
 |.str _=>true
 |_=>false
def Bf:Nat->D->Bool
 |0,x=>JL x
 |n+1,.tup xs=>xs.all (Bf n)
 |_+1,x=>JL x
def eqF:D->D->Bool
 |.non,.non=>true
 |.bl a,.bl b=>a==b
 |.bl a,.int b=>(if a then 1 else 0)==b
 |.int a,.bl b=>a==(if b then 1 else 0)
 |.int a,.int b=>a==b
 |.str a,.str b=>a==b
 |_,_=>false
def eqN:Nat->D->D->Bool
 |0,x,y=>eqF x y
 |n+1,.tup xs,.tup ys=>(xs.zip ys).all (fun p=>eqN n p.1 p.2)&&xs.length==ys.length
 |_+1,.tup _,_=>false
 |_+1,_,.tup _=>false
 |_+1,x,y=>eqF x y
theorem EM:∀(n:Nat)(x:D),Bf n x=true->eqN n x x=true
 |0,x,h=>by cases x<;>first|rfl|(exact beq_self_eq_true _)|cases h
 |n+1,x,h=>by
  cases x with
  |tup xs =>
   have h':xs.all (Bf n)=true:=h
   show((xs.zip xs).all (fun p=>eqN n p.1 p.2)&&xs.length==xs.length)=true
   rw[beq_self_eq_true,qCJ,qAr]
   rintro⟨a,b⟩ hp
   obtain⟨i,hi⟩:=qCa hp
   rw[qBf] at hi
   obtain⟨h1,h2⟩:=hi
   have e:a=b:=qAj (h1.symm.trans h2)
   subst e
   exact EM n a (qAr.mp h' a (qAo h1))
  |_=>first|rfl|(exact beq_self_eq_true _)|cases h
theorem Is.flatV {K:W.Frag}{H:Hp}{v:V}{x:D}(h:Is K H v x) (f:JL x=true):flatV v=true:=by
 cases h<;>first|rfl|cases f
theorem RA {K:W.Frag}{H:Hp}{v u:V}{x y:D}(h:Is K H v x) (h':Is K H u y) (f:JL x=true) (f':JL y=true):eqV v u=eqF x y:=by
 cases h<;>first|(cases f;done)|(cases h'<;>first|(cases f';done)|rfl)
theorem BE {its:List Value}{j:Nat}(h:j<its.toArray.size){u:Value}(e:its[j]? = some u):its.toArray[j]=u:=by
 have hj:j<its.length:=by simpa using h
 rw[qAb hj] at e
 have e':=qAj e
 rw[<-e']
 simp
section
variable {X:Cx}{pins:List (Addr×Obj)}{σ:St}{H:Hp}{s:Shared}
theorem Ph (I:Inv X pins σ H s):∀(n:Nat){v:V}{x y:D},Bf n x=true->Bf n y=true->Is X.K H v x->Is X.K H v y->x=y
 |0,v,x,y,fx,fy,hx,hy=>by
  cases hx<;>first|(cases fx;done)|(cases hy<;>first|rfl|(cases fy;done))
 |n+1,v,x,y,fx,fy,hx,hy=>by
  cases hx with
  |@tup a vs xs h hl r =>
   cases hy with
   |@tup _ ws ys h2 hl2 r2 =>
    have e:=I.tuple_inj h h2
    subst e
    congr 1
    apply qBW
    intro i
    cases hv:vs[i]? with
    |none =>
     have hi:=qAM.mp hv
     rw[qAM.mpr (),qAM.mpr ()]
    |some v =>
     have hi:=(qAf.mp hv).1
     have hx:xs[i]? = some (xs[i]' ()):=qAb ()
     have hy:ys[i]? = some (ys[i]' ()):=qAb ()
     rw[hx,hy]
     congr 1
     exact Ph I n (qAr.mp (show xs.all (Bf n)=true from fx) _ (qAo hx)) (qAr.mp (show ys.all (Bf n)=true from fy) _ (qAo hy)) (r i v _ hv hx) (r2 i v _ hv hy)
   |lst=>cases fy
   |ref=>cases fy
  |lst=>cases fx
  |ref=>cases fx
  |ty=>cases fx
  |_=>cases hy<;>first|rfl|(cases fy;done)
theorem Iv (I:Inv X pins σ H s){n:Nat}{A:Around}{a b:Addr}{vs ws:List V}{xs ys:List D}(ha:SqT X.K H a vs) (hb:SqT X.K H b ws) (hx:Iss X.K H vs xs) (hy:Iss X.K H ws ys) (hu:A.units<cLine)
 (ih:∀(x y:D)(v u:V)(v' u':Value),x∈xs->y∈ys->Is X.K H v x->Is X.K H u y->BF v v'->BF u u'->SeqAt.EqAt A.in1 s v' u' (eqN n x y)):SeqAt.RcAt A s (.ref a) (.ref b) (eqN (n+1) (.tup xs) (.tup ys)):=by
 obtain⟨its,r1,p1,_⟩:=I.tuple ha
 obtain⟨its2,r2,p2,_⟩:=I.tuple hb
 have l1:=r1.length
 have l2:=r2.length
 have k1:=hx.1
 have k2:=hy.1
 have key:=SeqAt.RcAt.tuples (A:=A) (s:=s) (l:=a) (b:=b) (items:=its.toArray) (items2:=its2.toArray) (e:=fun j=>match xs[j]?,ys[j]? with|some x,some y=>eqN n x y|_,_=>true) p1 p2 hu (fun j h1 h2=>by
  have h1':j<its.length:=by simpa using h1
  have h2':j<its2.length:=by simpa using h2
  have gx:xs[j]? = some (xs[j]' ()):=qAb ()
  have gy:ys[j]? = some (ys[j]' ()):=qAb ()
  have gv:vs[j]? = some (vs[j]' ()):=qAb ()
  have gw:ws[j]? = some (ws[j]' ()):=qAb ()
  obtain⟨u1,e1,q1⟩:=r1.get gv
  obtain⟨u2,e2,q2⟩:=r2.get gw
  rw[BE h1 e1,BE h2 e2]
  rw[gx,gy]
  exact ih _ _ _ _ _ _ (qAo gx) (qAo gy) (hx.2 j _ _ gv gx) (hy.2 j _ _ gw gy) q1 q2)
 have e:eqN (n+1) (.tup xs) (.tup ys)=((List.range (min its.toArray.size its2.toArray.size)).all (fun j=>match xs[j]?,ys[j]? with|some x,some y=>eqN n x y|_,_=>true)&&its.toArray.size==its2.toArray.size):=by
  show((xs.zip ys).all (fun p=>eqN n p.1 p.2)&&xs.length==ys.length)=_
  have s1:its.toArray.size=xs.length:=by simp;omega
  have s2:its2.toArray.size=ys.length:=by simp;omega
  rw[s1,s2]
  congr 1
  rw[qBx,qAr,qAr]
  constructor
  .intro h j hj
   rw[qAN] at hj
   have gx:xs[j]? = some (xs[j]' ()):=qAb ()
   have gy:ys[j]? = some (ys[j]' ()):=qAb ()
   rw[gx,gy]
   exact h (_,_) (qAo (qBf.mpr #[gx,gy]))
  .rintro h ⟨x,y⟩ hp
   obtain⟨j,hj⟩:=qCa hp
   obtain⟨gx,gy⟩:=qBf.mp hj
   have h1:=(qAf.mp gx).1
   have h2:=(qAf.mp gy).1
   have:=h j (by rw[qAN];omega)
   simp only[] at gx gy
   rw[gx,gy] at this
   exact this
 rw[e]
 exact key
theorem J9 (I:Inv X pins σ H s):∀(n:Nat)(A:Around)(x y:D)(v u:V)(v' u':Value),A.units+n<cLine->Bf n x=true->Bf n y=true->Is X.K H v x->Is X.K H u y->BF v v'->BF u u'->SeqAt.EqAt A s v' u' (eqN n x y)
 |0,A,x,y,v,u,v',u',_,fx,fy,hx,hy,rv,ru=>by
  show SeqAt.EqAt A s v' u' (eqF x y)
  rw[<-RA hx hy fx fy]
  exact OW rv ru (hx.flatV fx) (hy.flatV fy)
 |n+1,A,x,y,v,u,v',u',hu,fx,fy,hx,hy,rv,ru=>by
  have flat:JL x=true->JL y=true->eqN (n+1) x y=eqF x y->SeqAt.EqAt A s v' u' (eqN (n+1) x y):=fun f1 f2 e=>by
   rw[e,<-RA hx hy f1 f2]
   exact OW rv ru (hx.flatV f1) (hy.flatV f2)
  have hu0:A.units<cLine:=()
  cases hx with
  |@tup a vs xs ha hl r =>
   cases rv
   obtain⟨its,r1,p1,_⟩:=I.tuple ha
   have t1:s.heap.IsTuple a its.toArray:=p1
   cases hy with
   |@tup b ws ys hb hl2 r2 =>
    cases ru
    by_cases hab:a=b
    .subst hab
     have e:=Ph I (n+1) fx fy (.tup ha hl r) (.tup hb hl2 r2)
     rw[e,EM (n+1) _ fy]
     exact SeqAt.EqAt.same _
    .refine SeqAt.EqAt.of_refs hab (Iv I ha hb #[hl,r] #[hl2,r2] hu0 fun x y v u v' u' mx my ix iy rv ru=>?_)
     exact J9 I n A.in1 x y v u v' u' (by show A.units+1+n<cLine;omega) (qAr.mp (show xs.all (Bf n)=true from fx) x mx) (qAr.mp (show ys.all (Bf n)=true from fy) y my) ix iy rv ru
   |non=>cases ru;exact SeqAt.EqAt.tuple_none t1 hu0
   |bl c=>cases ru;exact SeqAt.EqAt.tuple_bool c t1 hu0
   |int c=>obtain⟨t,rfl⟩:=ru;exact SeqAt.EqAt.tuple_int c t t1 hu0
   |str c=>obtain⟨t,rfl⟩:=ru;exact SeqAt.EqAt.tuple_str c t t1 hu0
   |ty c=>cases fy
   |lst=>cases fy
   |ref=>cases fy
  |non =>
   cases hy with
   |@tup b ws ys hb hl2 r2 =>
    cases ru;cases rv
    obtain⟨its,r1,p1,_⟩:=I.tuple hb
    exact SeqAt.EqAt.none_tuple (show s.heap.IsTuple b its.toArray from p1) hu0
   |ty c=>cases fy
   |lst=>cases fy
   |ref=>cases fy
   |_=>exact flat rfl rfl rfl
  |bl c =>
   cases hy with
   |@tup b ws ys hb hl2 r2 =>
    cases ru;cases rv
    obtain⟨its,r1,p1,_⟩:=I.tuple hb
    exact SeqAt.EqAt.bool_tuple c (show s.heap.IsTuple b its.toArray from p1) hu0
   |ty c=>cases fy
   |lst=>cases fy
   |ref=>cases fy
   |_=>exact flat rfl rfl rfl
  |int c =>
   cases hy with
   |@tup b ws ys hb hl2 r2 =>
    obtain⟨t,rfl⟩:=rv;cases ru
    obtain⟨its,r1,p1,_⟩:=I.tuple hb
    exact SeqAt.EqAt.int_tuple c t (show s.heap.IsTuple b its.toArray from p1) hu0
   |ty c=>cases fy
   |lst=>cases fy
   |ref=>cases fy
   |_=>exact flat rfl rfl rfl
  |str c =>
   cases hy with
   |@tup b ws ys hb hl2 r2 =>
    obtain⟨t,rfl⟩:=rv;cases ru
    obtain⟨its,r1,p1,_⟩:=I.tuple hb
    exact SeqAt.EqAt.str_tuple c t (show s.heap.IsTuple b its.toArray from p1) hu0
   |ty c=>cases fy
   |lst=>cases fy
   |ref=>cases fy
   |_=>exact flat rfl rfl rfl
  |ty c=>cases fx
  |lst=>cases fx
  |ref=>cases fx
def UH (n:Nat):R3:=fun dx dy R=>match dx,dy with
 |.tup xs,.tup ys=>Bf n (.tup xs)=true/\Bf n (.tup ys)=true/\R (.bl (eqN n (.tup xs) (.tup ys)))
 |_,_=>False
theorem P1 (n:Nat)(hu:X.A.units+n<cLine):F6 X (compareOp .Eq) (UH n):=by
 intro pins s σ H x y v u Q I rx ry h
 obtain⟨z,dx,dy,R,hz,hx,hy,h3,q⟩:=h
 replace hx:=hx.mono hz
 replace hy:=hy.mono hz
 unfold UH at h3
 split at h3
 .rename_i xs ys
  obtain⟨fx,fy,h3⟩:=h3
  cases n with
  |zero=>cases fx
  |succ n =>
   obtain⟨a,vs,rfl,ha,ia⟩:=Is.tup_inv hx
   obtain⟨b,ws,rfl,hb,ib⟩:=Is.tup_inv hy
   cases rx
   cases ry
   refine Iv (A:=X.A) (n:=n) I ha hb ia ib () (fun x y v u v' u' mx my ix iy rv ru=>?_) X.prog X.w X.xe _ #[.bl _,H,I,rfl,q _ _ #[H,z] (Ext.refl hz) (.bl _) h3]
   exact J9 I n X.A.in1 x y v u v' u' (by show X.A.units+1+n<cLine;omega) (qAr.mp (show xs.all (Bf n)=true from fx) x mx) (qAr.mp (show ys.all (Bf n)=true from fy) y my) ix iy rv ru
 .exact h3.elim
end
theorem Ca.there {P:Program}{w:World}{H:Hp}{h:Heap}{a:Addr}{o:HO}(x:Ca P w H h a o):∃u,h.get? a=some u:=by
 cases o with
 |lst xs=>obtain⟨_,_,_,_,e⟩:=x;exact#[_,e]
 |tup xs=>obtain⟨_,_,_,_,e,_⟩:=x;exact#[_,e]
 |dK kvs=>obtain⟨_,_,_,_,o,_,_,e,_⟩:=x;exact#[_,e]
 |dT kvs=>obtain⟨_,_,_,_,o,_,_,e,_⟩:=x;exact#[_,e]
 |set S n=>obtain⟨o,_,_,_,e,_⟩:=x;exact#[_,e]
 |ins C dx fs=>obtain⟨_,_,_,e,_⟩:=x;exact#[_,e]
 |own y=>obtain⟨_,e⟩:=x;exact#[_,e]
 |xd fs=>obtain⟨_,⟨_,_,_,e,_⟩,_⟩:=x;exact#[_,e]
 |rng lo hi=>obtain⟨_,_,_,e⟩:=x;exact#[_,e]
 |frz ob u=>obtain⟨e,_⟩:=x;exact#[_,e]
 |tbl ps=>obtain⟨_,e,_⟩:=x;exact#[_,e]
 |met f y=>exact#[_,show h.get? a=some _ from x]
 |ext φ=>obtain⟨_,⟨_,e⟩,_⟩:=x;exact#[_,e]
structure Fly (P:Program)(w:World)(l:List Env)(H H':Hp)(h h':Heap)(ea C:Addr)(a0:Value)(B:Heap):Prop where
 fl:Heap.FlyingW B l ea (.ref C) a0 h'
 un:Un (frs l) [] H H' h h'
 hok:HOk P w H' h'
 kb:∀b o,h.get? b=some o->H b=none->b∉frs l->B.get? b=some o
 tr:∀b o,H' b=some o->∃ob,B.get? b=some ob
 old:∀b o,h.get? b=some o->b∉frs l->∃ob,B.get? b=some ob
section
variable {P:Program}{w:World}{l:List Env}{H H':Hp}{h h' h'':Heap}{ea C:Addr}{a0:Value}{B:Heap}
theorem Ks {l:List Env}{b:Addr}{B h:Heap}(F:h.FunFrames B l) (hb:b∈frs l):∃o,h.get? b=some o/\∀vs,o.data≠.fields vs:=(F.mem hb).2
theorem Rr {H':Hp}{h' h'':Heap}{B:Heap}(ok:HOk P w H' h') (tr:∀b o,H' b=some o->∃ob,B.get? b=some ob) (s1:B.StaysIn h') (s2:B.StaysIn h''):HOk P w H' h'':=fun a o e=>by
 refine(ok a o e).stay (fun b u hb q=>?_) (fun _ q=>q) fun _ _ q=>q
 have hB:∃ob,B.get? b=some ob:=by
  rcases hb with rfl|hb
  .exact tr _ _ e
  .exact tr _ _ hb
 obtain⟨ob,eb⟩:=hB
 have:=s1 b ob eb
 rw[q] at this
 cases this
 exact s2 b _ eb
end
def CXU (P:Program)(w:World):CXT:=fun outer H s E e s'=>∃(ea C:Addr)(a0:Value)(B:Heap)(H':Hp),e=.ref ea/\s'.os=s.os/\AllBare s'.gens/\Fly P w outer H H' s.heap s'.heap ea C a0 B/\E (.ref C) none H'
theorem EK {env:Env}{l:List Env}{L:Addr}(h:env.frame=some L):frs (env::l)=L::frs l:=by
 unfold frs
 rw[qBK,h]
section
variable {X:Cx}{pins:List (Addr×Obj)}{σ:St}{H H':Hp}{s s':Shared}{ea C:Addr}{a0:Value}{B:Heap}{h1:Heap}{vs:List Value}
theorem Qp (I:Inv X pins σ H s)(hst:X.stack=X.env::X.outer)(hf:X.env.frame=some X.env.locals)(hex:X.ex=[])(hx:Heap.MadeExcOf s.heap h1 ea (.ref C) vs){Q:Unit->Shared->Prop}{E:Value->Shared->Prop}
 (hQ:∀(h':Heap)(t:Addr)(B:Heap),Fly X.prog X.w X.outer X.H₀ H X.s₀.heap h' ea C (.ref t) B->Q Unit.unit { s with heap:=h' }) :
 wpAny (model X.prog X.w) X.A (leaving X.env (.ref ea)) Q E { s with heap:=h1 }:=by
 have hfr:X.A.frames=some (X.env::X.outer):=by rw[<-hst];exact I.ok.frames
 have hstk:=I.stack
 rw[hst] at hstk
 have hin:∀env∈(X.env::X.outer),∀b,env.frame=some b->b∈frs (X.env::X.outer):=fun env he b hb=>qBN.mpr #[env,he,hb]
 have hB:∀b o,s.heap.get? b=some o->b∉frs (X.env::X.outer)->(W.hideAll s.heap (frs (X.env::X.outer))).get? b=some o:=fun b o e hb=>W.hideAll_get _ e hb
 have ho:∀b o,(W.hideAll s.heap (frs (X.env::X.outer))).get? b=some o->s.heap.get? b=some o:=fun b o e=>W.of_hideAll _ e
 refine wpAny_leaves_madeW (base:=W.hideAll s.heap (frs (X.env::X.outer))) (h:=s.heap) (s:={ s with heap:=h1 }) hfr hf ho (W.funFrames_hide hstk hin) hx fun h' t fl _ _ up=>?_
 refine hQ h' t (W.hideAll s.heap (frs (X.env::X.outer))) ?_
 have up0:s.heap.UpToSlots h':=(Heap.UpToSlots.of_keeps hx.keeps).trans up
 have old:∀b o,X.s₀.heap.get? b=some o->b∉frs X.outer->b∉frs (X.env::X.outer):=fun b o e hb hm=>by
  rw[EK hf] at hm
  rcases qAk.mp hm with rfl|hm
  .exact absurd (qAq (qAi e) I.ok.above) (qAW _)
  .exact hb hm
 have nex:∀b:Addr,b∉X.ex:=fun b z=>by rw[hex] at z;cases z
 have tfr:∀b o,H b=some o->b∉frs (X.env::X.outer):=fun b o e hm=>by
  have:=I.stkFree b (by rw[hst];exact hm)
  rw[e] at this
  cases this
 have tr:∀b o,H b=some o->∃ob,(W.hideAll s.heap (frs (X.env::X.outer))).get? b=some ob:=fun b o e=>by
  obtain⟨u,eu⟩:=Ca.there (I.hok b o e)
  exact#[u,hB b u eu (tfr b o e)]
 refine#[fl,#[fun b o e n hb _=>?_,fun b o e n hb _=>?_,fun b o e n _=>I.base.free b o e n (nex b),fun b o e _=>?_,I.base.tups,I.base.frzs,I.base.tbls],Rr I.hok tr ho fl.1,fun b o e n hb=>?_,tr,fun b o e hb=>?_]
 .exact fl.1 b o (hB b o (I.base.keep b o e n hb (nex b)) (old b o e hb))
 .obtain⟨sl,e1⟩:=I.base.slot b o e n hb (nex b)
  obtain⟨o2,e2,d⟩:=Ks hstk (by rw[EK hf];exact qAH _ hb)
  rw[e1] at e2
  cases e2
  obtain⟨sl2,e3⟩:=up0 b _ e1 d
  exact#[sl2,e3]
 .obtain⟨o1,e1⟩:=I.base.there b o e (nex b)
  by_cases hb:b∈frs X.outer
  .obtain⟨o2,e2,d⟩:=Ks hstk (by rw[EK hf];exact qAH _ hb)
   obtain⟨sl2,e3⟩:=up0 b _ e2 d
   exact#[_,e3]
  .exact#[o1,fl.1 b o1 (hB b o1 e1 (old b o e hb))]
 .exact hB b o (I.base.keep b o e n hb (nex b)) (old b o e hb)
 .obtain⟨o1,e1⟩:=I.base.there b o e (nex b)
  exact#[o1,hB b o1 e1 (old b o e hb)]
theorem RC (I:Inv X pins σ H s)(hst:X.stack=X.env::X.outer)(hf:X.env.frame=some X.env.locals)(hex:X.ex=[])(f:Fly X.prog X.w X.stack H H' s.heap s'.heap ea C a0 B){Q:Unit->Shared->Prop}{E:Value->Shared->Prop}
 (hQ:∀h':Heap,Fly X.prog X.w X.outer X.H₀ H' X.s₀.heap h' ea C a0 B->Q Unit.unit { s' with heap:=h' }):wpAny (model X.prog X.w) X.A (leaving X.env (.ref ea)) Q E s':=by
 have hfr:X.A.frames=some (X.env::X.outer):=by rw[<-hst];exact I.ok.frames
 rw[hst] at f
 refine wpAny_leaves_onW hfr hf f.fl fun h' fl up=>hQ h' ?_
 have old:∀b o,X.s₀.heap.get? b=some o->b∉frs X.outer->b∉frs (X.env::X.outer):=fun b o e hb hm=>by
  rw[EK hf] at hm
  rcases qAk.mp hm with rfl|hm
  .exact absurd (qAq (qAi e) I.ok.above) (qAW _)
  .exact hb hm
 have nex:∀b:Addr,b∉X.ex:=fun b z=>by rw[hex] at z;cases z
 have up_:∀b,b∈frs X.outer->b∈frs (X.env::X.outer):=fun b hb=>by rw[EK hf];exact qAH _ hb
 have kb:∀b o,X.s₀.heap.get? b=some o->X.H₀ b=none->b∉frs X.outer->B.get? b=some o:=fun b o e n hb =>
  f.kb b o (I.base.keep b o e n hb (nex b)) (I.base.free b o e n (nex b)) (old b o e hb)
 have ol:∀b o,X.s₀.heap.get? b=some o->b∉frs X.outer->∃ob,B.get? b=some ob:=fun b o e hb=>by
  obtain⟨o1,e1⟩:=I.base.there b o e (nex b)
  exact f.old b o1 e1 (old b o e hb)
 refine#[fl,#[fun b o e n hb _=>fl.1 b o (kb b o e n hb),fun b o e n hb _=>?_,fun b o e n _=>?_,fun b o e _=>?_,fun b xs e=>f.un.tups b xs (I.base.tups b xs e),fun b o u e=>f.un.frzs b o u (I.base.frzs b o u e),fun b ps e=>?_],Rr f.hok f.tr f.fl.1 fl.1,kb,f.tr,ol]
 .obtain⟨sl,e1⟩:=I.base.slot b o e n hb (nex b)
  obtain⟨sl1,e2⟩:=f.un.slot b _ e1 (I.base.free b o e n (nex b)) (up_ b hb) (by simp)
  obtain⟨o3,e3,d⟩:=Ks f.fl.2.2.1 (up_ b hb)
  rw[e2] at e3
  cases e3
  obtain⟨sl2,e4⟩:=up b _ e2 d
  exact#[sl2,e4]
 .obtain⟨o1,e1⟩:=I.base.there b o e (nex b)
  exact f.un.free b o1 e1 (I.base.free b o e n (nex b)) (by simp)
 .by_cases hb:b∈frs X.outer
  .obtain⟨o3,e3,d⟩:=Ks f.fl.2.2.1 (up_ b hb)
   obtain⟨sl2,e4⟩:=up b _ e3 d
   exact#[_,e4]
  .obtain⟨ob,eb⟩:=ol b o e hb
   exact#[ob,fl.1 b ob eb]
 .obtain⟨m1,e1⟩:=I.base.tbls b ps e
  obtain⟨m2,e2⟩:=f.un.tbls b _ e1
  exact#[m1++m2,by rw[e2,Array.append_assoc]]
end
structure ExC (K:W.Frag)(x:Str)(C:Addr):Prop where
 ns:W.nsIn K mainGlobals x=some (some (.ref C))
 ex:W.excIn K C [.type "ValueError",.type "Exception",.type "BaseException",.type "object"] "ValueError.__new__"=true
theorem Ox {K:W.Frag}{mg:Str->Option Value}{base:Heap}(M:Mod K mg base) (p:Program):∃loose mb,W.TopRead p loose mg mb base:=by
 obtain⟨o,es,ep,ho,hd,hk,hm⟩:=M.glob
 obtain⟨mb,h1,h2⟩:=M.blt
 refine#[es.toList.filterMap fun e=>match e.key with|.str x _=>some x|_=>none,mb,M.glob,h1,M.nolimit,h2,fun x _ hx _ _ _=>?_]
 rw[<-hm x]
 unfold nsFind findBy
 cases q:es.find? (fun e=>e.key.isStr x) with
 |none=>rfl
 |some e =>
  exfalso
  have h3:=Array.find?_some q
  have h4:=Array.mem_of_find?_eq_some q
  apply hx
  rw[qBN]
  refine#[e,by simpa using h4,?_]
  obtain⟨kh,key,val⟩:=e
  cases key with
  |str y t =>
   have h5:(Value.str y t).isStr x=true:=h3
   have h6:y=x:=by simpa [Value.isStr] using h5
   show some y=some x
   rw[h6]
  |_=>cases h3
structure OY (X:Cx)(U:Str->Prop):Prop where
 raise:∀(pins:List (Addr×Obj))(σ:St)(H:Hp)(s:Shared)(h1:Heap)(ea C:Addr)(x:Str)(vs:List Value),Inv X pins σ H s->AG X.H₀ H->X.mg x=some (.ref C)->U x->Heap.MadeExcOf s.heap h1 ea (.ref C) vs->X.xe (.ref ea) { s with heap:=h1 }
 pass:∀(pins:List (Addr×Obj))(σ:St)(H:Hp)(s:Shared)(e:Value)(s':Shared),Inv X pins σ H s->CXU X.prog X.w X.stack H s (fun cls _ H'=>∃x,X.mg x=some cls/\U x/\AG X.H₀ H') e s'->X.xe e s'
theorem MJ {P:Program}{w:World}{K:W.Frag}{mg:Str->Option Value}{base:Heap}{N:List Str}{qual:Str}{scope:Scope}{f:Addr}{cd:Value}{A:Around}{outer:List Env}{s:Shared}{H:Hp}{E:XK}{U:Str->Prop}
 (hE:∀x C H',AG H H'->mg x=some (.ref C)->U x->E (.ref C) none H'):OY (JB (CXU P w) P w K mg base N qual scope f cd A outer s H E) U where
 raise:=fun pins σ H1 s1 h1 ea C x vs I hs hm hu hx=>Qp I rfl rfl rfl hx fun h' t B fl=>#[ea,C,.ref t,B,H1,rfl,I.os,I.bare,fl,hE x C H1 hs hm hu]
 pass:=fun pins σ H1 s1 e s' I h=>by
  obtain⟨ea,C,a0,B,H',rfl,ho,hg,fl,x,hm,hu,hs⟩:=h
  exact RC I rfl rfl rfl fl fun h' fl'=>#[ea,C,a0,B,H',rfl,ho.trans I.os,hg,fl',hE x C H' hs hm hu]
section
variable {X:Cx}{U:Str->Prop}{e:Expr}{es:List Expr}{te:TE3}{tr:TA3}{pos:Pos}
def Sr (U:Str->Prop)(x:Str)(te:TE3):TS3:=fun _ τ=>te τ fun _=>U x
theorem CV {x:Str}{C:Addr}{np cpos:Pos}(xo:OY X U) (hc:X.calm=true) (he:PE3 X e te) (hg:Gl X x) (ec:ExC X.K x C) (hm:X.mg x=some (.ref C))
 (hs:starEach [e] X.env=(false,eval e X.env)::starEach [] X.env:=by exact Ct rfl) (hplain:(backTo cpos (starEach [e] X.env)).any (·.1)=false:=by exact DM rfl) (hd:(x==("__debug__":Str))=false:=by decide) (hl:X.lent=none:=by rfl) :
 PS3 X (.Raise (some (.Call (.Name x np) [e] [] cpos)) none pos) (Sr U x te):=by
 refine#[?_]
 intro pins s σ H D2 I h
 obtain⟨B,z,τ,D3,r,ht,c⟩:=h
 obtain⟨loose,mb,T⟩:=Ox I.mod X.prog
 obtain⟨tl,N,nm,q,bs,hdct,sn,sub,ab,col,dd,k0,k1,k2,k3,k5,mN,hC,hN,hni,TL⟩:=(W.own_of_in I.mod.kin T ec.ns ec.ex).obj
 refine wpAny_Raise_call_subT (C:=C) (nm:=nm) (q:=q) (N:=N) (bs:=bs) (bm:=tl) (hdct:=hdct) (sn:=sn) (sub:=sub) (ab:=ab) (col:=col) (dd:=dd) (k0:=k0) (k1:=k1) (k2:=k2) (k3:=k3) (k5:=k5)
  PySem.F.excBase_ValueError (mN:=mN) (TL.hasType PySem.F.excBase_ValueError.hasBase) (I.ok.hd hc) hplain hni (Hs I hg hm #[rfl,?_] hd)
 have pa:=(Ak he.out AA hs) cpos pins s σ H (fun vs H1=>vs.length=1/\AG X.H₀ H1/\U x) I #[B,_,τ,_,r,ht,fun s' v H' e' i' f' h'=>#[rfl,(r.all hl).trans e'.hh,h']]
 rw[hs] at pa ⊢
 refine Calls.evalArgs_plain (thn pa fun us s2 #[vs,H2,I2,rv,hl,hsame,hu]=>#[rfl,?_,I2.bk _ _ hC,hN.keeps I2.bk,TL.keeps I2.bk,fun h' ea hx=>?_])
 .have:=rv.length
  show us.length<=sizeLine
  have z:us.length=1:=()
  rw[z]
  decide
 .exact xo.raise pins σ H2 s2 h' ea C x us I2 hsame hm hu hx
def LD (U:Str->Prop)(sp:Sp3)(t:TA3):TE3:=fun τ R=>t τ fun ss=>sp ss R U
theorem Nh {k:Nat}{x:Str}{ps:List Str}{sp:Sp3}{p:Pos}(xo:OY X U) (c:Cal X.prog X.w X.K X.mg X.base (CXU X.prog X.w) k x ps sp) (hr:Eh k X.A) (hg:Gl X x) (ha:PA3 X (e::es) tr)
 (hdb:(x==("__debug__":Str))=false:=by decide) (he:starEach (e::es) X.env=(false,eval e X.env)::starEach es X.env:=by exact Ct rfl) (hpl:(backTo pos (starEach es X.env)).any (·.1)=false:=by exact DM rfl) (hl:X.lent=none\/∀y,¬U y:=by first|exact .inl rfl|exact .inr (fun _ z=>z)) :
 PE3 X (.Call (.Name x p) (e::es) [] pos) (LD U sp tr):=by
 refine#[?_]
 obtain⟨f,fd,F,hm,hk,hb⟩:=c.ex
 refine Br (Mo (E:=fun cls _ H'=>∃y,X.mg y=some cls/\U y/\AG X.H₀ H') F hr hg hm hk hb .nil (fun pins σ H s e s' I h=>xo.pass pins σ H s e s' I h) ha.out hdb he hpl) fun σ H Q #[B,z,τ,R,r,ht,q]=>#[B,_,τ,_,r,ht,fun ss vs H1 e1 i1 h1=>?_]
 show Ag X.K X.mg sp (vs++[]) H1.h Q _
 rw[qBL]
 exact#[H1.z,ss,R,U,e1.sub,i1,h1,fun s v H2 e2 i2 f2 h2=>q s v H2 (e1.trans e2) i2 (JH e1 f2) h2,fun y C H2 e2 hy hu=>#[y,hy,hu,hl.elim (fun hl=>(r.all hl).trans (e1.hh.trans e2)) (fun hn=>(hn y hu).elim)]]
end
section
variable {P:Program}{w:World}{K:W.Frag}{mg:Str->Option Value}{base:Heap}
theorem fnU {x qual:Str}{st:Stmt}{f:Addr}{fd:FuncData}{N ps:List Str}{k:Nat}{sp:Sp3}(F:Fun K x qual st f fd) (Sc:Ae N ps (Ac st)) (len:∀ss R U,sp ss R U->ss.length=ps.length)
 (hbody:∀(cdv:Value)(A:Around)(outer:List Env)(s:Shared)(H:Hp)(E:XK)(ss:List S)(R:S->Prop)(U:Str->Prop),Eh k (A.deeper (envOfC qual (Ac st) s.heap.objs.size f cdv))->sp ss R U ->
  OY (JB (CXU P w) P w K mg base N qual (Ac st) f cdv A outer s H E) U ->
  ∃t,CY (JB (CXU P w) P w K mg base N qual (Ac st) f cdv A outer s H E) (B4 st) t/\t { nx:=fun _=>R (.d .non),rt:=R } (DS N ss)):Az P w K mg base (CXU P w) (k+1) f fd ps (Ag K mg sp):=by
 obtain⟨oc,od,kV,doc,pm,an,cdv,ct,osl,rfl,lk,hcd⟩:=F.ex
 refine QU lk hcd Sc (fun vs H Q E hh=>by obtain⟨z,ss,R,U,hz,ha,h3,_⟩:=hh;exact ha.1.trans (len ss R U h3)) fun A outer s H vs Q E hr hh9=>?_
 obtain⟨z,ss,R,U,hz,ha,h3,q,qe⟩:=hh9
 obtain⟨t,ht,hq⟩:=hbody cdv A outer s H E ss R U hr h3 (MJ qe)
 exact#[_,ht.out,#[H,z],z,DS N ss,_,ED ha hz (AG.refl H),hq,#[fun τ σ p r h=>q (.d .non) _ p r.ext Is.non EB h,fun _ _ _ _ z=>z.elim,fun _ _ _ _ z=>z.elim,fun s v p e i f h=>q s v p e i f h]]
theorem Az.anyCX {CX:CXT}{k:Nat}{f:Addr}{fd:FuncData}{ps:List Str}{sp:Sp}(F:Az P w K mg base CX0 k f fd ps sp):Az P w K mg base CX k f fd ps sp :=
 #[F.len,fun A outer s H args us vs Q E hr h0 hb hv hs=>codeAny_mono (F.run A outer s H args us vs Q E hr h0 hb hv hs) fun r s' h=>by
  cases r with
  |error e=>exact(show False from h).elim
  |ok fl=>cases fl<;>exact h]
end
section
variable {K:W.Frag}{M:Model}{A:Around}{E:Value->Shared->Prop}{s:Shared}
end
section
variable {X:Cx}{pins:List (Addr×Obj)}{σ:St}{H H':Hp}{s s':Shared}{ea C:Addr}{a0:Value}{B:Heap}
end
section
variable {X:Cx}{e:Expr}{es:List Expr}{tr:TA3}{th:TS3}
end
theorem Mu {X:Cx}:OY X NoU where
 raise:=fun _ _ _ _ _ _ _ _ _ _ _ _ hu=>hu.elim
 pass:=fun _ _ _ _ _ _ _ h=>by
  obtain⟨_,_,_,_,_,_,_,_,_,_,_,hu,_⟩:=h
  exact hu.elim
section
variable {prog:Program}{w:World}{A:Around}{E:Value->Shared->Prop}{s:Shared}{K:W.Frag}{x D:Addr}
open PySem.W Builtin Builtin.ObjectAttr Builtin.Getset_descriptor in
open PySem.W in
end
section
variable {X:Cx}{pins:List (Addr×Obj)}{σ:St}{H H':Hp}{s s':Shared}{ea C:Addr}{oe:Obj}{a0:Value}{B:Heap}
end
section
variable {X:Cx}{ea C:Addr}{oe:Obj}
variable {e:Expr}{es:List Expr}{tr:TA3}
end
section
variable {X:Cx}
variable {e:Expr}{es:List Expr}{tr:TA3}
end
section
variable {X:Cx}{st:Stmt}{rest':List Stmt}{t u:TS3}
def sGp (t u:TS3):TS3:=fun D3 τ=>∃P:Prop,t { D3 with nx:=fun τ'=>τ'=τ/\P } τ/\(P->u D3 τ)
theorem To (h1:PS3 X st t)(h2:CY X rest' u):CY X (st::rest') (sGp t u):=#[Fv (BV h1 h2).out fun D2 σ H #[B,z,τ,D3,r,#[P,ht,hu],c]=>#[B,_,τ,D3,r,#[fun τ'=>τ'=τ/\P,ht,fun τ' #[e,hP]=>by subst e;exact hu hP],c]]
end
theorem hu_ {A:Around}{k n:Nat}(hr:Eh k A) (hn:n<=200):A.units+n<cLine:=by have:=hr.un;omega
section
variable {X:Cx}{pins:List (Addr×Obj)}{σ:St}{H:Hp}{s:Shared}
theorem K9 (I:Inv X pins σ H s){n:Nat}{A:Around}{a b:Addr}{vs ws:List V}{xs ys:List D}(ha:SqT X.K H a vs) (hb:SqT X.K H b ws) (hx:Iss X.K H vs xs) (hy:Iss X.K H ws ys) (hu:A.units<cLine)
 (ih:∀(x y:D)(v u:V)(v' u':Value),x∈xs->y∈ys->Is X.K H v x->Is X.K H u y->BF v v'->BF u u'->SeqAt.EqAt A.in1 s v' u' (eqN n x y)):SeqAt.RcNeAt A s (.ref a) (.ref b) (!eqN (n+1) (.tup xs) (.tup ys)):=by
 obtain⟨its,r1,p1,_⟩:=I.tuple ha
 obtain⟨its2,r2,p2,_⟩:=I.tuple hb
 have l1:=r1.length
 have l2:=r2.length
 have k1:=hx.1
 have k2:=hy.1
 have key:=SeqAt.RcNeAt.tuples (A:=A) (s:=s) (l:=a) (b:=b) (items:=its.toArray) (items2:=its2.toArray) (e:=fun j=>match xs[j]?,ys[j]? with|some x,some y=>eqN n x y|_,_=>true) p1 p2 hu (fun j h1 h2=>by
  have h1':j<its.length:=by simpa using h1
  have h2':j<its2.length:=by simpa using h2
  have gx:xs[j]? = some (xs[j]' ()):=qAb ()
  have gy:ys[j]? = some (ys[j]' ()):=qAb ()
  have gv:vs[j]? = some (vs[j]' ()):=qAb ()
  have gw:ws[j]? = some (ws[j]' ()):=qAb ()
  obtain⟨u1,e1,q1⟩:=r1.get gv
  obtain⟨u2,e2,q2⟩:=r2.get gw
  rw[BE h1 e1,BE h2 e2]
  rw[gx,gy]
  exact ih _ _ _ _ _ _ (qAo gx) (qAo gy) (hx.2 j _ _ gv gx) (hy.2 j _ _ gw gy) q1 q2)
 have e:eqN (n+1) (.tup xs) (.tup ys)=((List.range (min its.toArray.size its2.toArray.size)).all (fun j=>match xs[j]?,ys[j]? with|some x,some y=>eqN n x y|_,_=>true)&&its.toArray.size==its2.toArray.size):=by
  show((xs.zip ys).all (fun p=>eqN n p.1 p.2)&&xs.length==ys.length)=_
  have s1:its.toArray.size=xs.length:=by simp;omega
  have s2:its2.toArray.size=ys.length:=by simp;omega
  rw[s1,s2]
  congr 1
  rw[qBx,qAr,qAr]
  constructor
  .intro h j hj
   rw[qAN] at hj
   have gx:xs[j]? = some (xs[j]' ()):=qAb ()
   have gy:ys[j]? = some (ys[j]' ()):=qAb ()
   rw[gx,gy]
   exact h (_,_) (qAo (qBf.mpr #[gx,gy]))
  .rintro h ⟨x,y⟩ hp
   obtain⟨j,hj⟩:=qCa hp
   obtain⟨gx,gy⟩:=qBf.mp hj
   have h1:=(qAf.mp gx).1
   have h2:=(qAf.mp gy).1
   have:=h j (by rw[qAN];omega)
   simp only[] at gx gy
   rw[gx,gy] at this
   exact this
 rw[e]
 exact key
def UT (n:Nat):R3:=fun dx dy R=>match dx,dy with
 |.tup xs,.tup ys=>Bf n (.tup xs)=true/\Bf n (.tup ys)=true/\R (.bl (!eqN n (.tup xs) (.tup ys)))
 |_,_=>False
theorem Nv (n:Nat)(hu:X.A.units+n<cLine):F6 X (compareOp .NotEq) (UT n):=by
 intro pins s σ H x y v u Q I rx ry h
 obtain⟨z,dx,dy,R,hz,hx,hy,h3,q⟩:=h
 replace hx:=hx.mono hz
 replace hy:=hy.mono hz
 unfold UT at h3
 split at h3
 .rename_i xs ys
  obtain⟨fx,fy,h3⟩:=h3
  cases n with
  |zero=>cases fx
  |succ n =>
   obtain⟨a,vs,rfl,ha,ia⟩:=Is.tup_inv hx
   obtain⟨b,ws,rfl,hb,ib⟩:=Is.tup_inv hy
   cases rx
   cases ry
   refine K9 (A:=X.A) (n:=n) I ha hb ia ib () (fun x y v u v' u' mx my ix iy rv ru=>?_) X.prog X.w X.xe _ #[.bl _,H,I,rfl,q _ _ #[H,z] (Ext.refl hz) (.bl _) h3]
   exact J9 I n X.A.in1 x y v u v' u' (by show X.A.units+1+n<cLine;omega) (qAr.mp (show xs.all (Bf n)=true from fx) x mx) (qAr.mp (show ys.all (Bf n)=true from fy) y my) ix iy rv ru
 .exact h3.elim
end
theorem Fi {env:Env}:∀(names:List (Str×NameKind))(acc:List (Str×Addr)),(∀y∈names,y.2=.free->∃c,env.cells.lookup y.1=some c) ->
 ∃cl,(forIn names acc fun(x:Str×NameKind)(r:List (Str×Addr))=>if (x.2 == .free)=true then (do let c <-cellOf env x.1;pure (ForInStep.yield ((x.1,c)::r)):Sem _) else pure (ForInStep.yield r))=pure cl /\
  (∀y c,(y,c)∈cl->(y,c)∈acc\/env.cells.lookup y=some c)/\(∀y,(y,NameKind.free)∈names->∃c,(y,c)∈cl)/\∀p∈acc,p∈cl
 |[],acc,_=>#[acc,rfl,fun y c h=>.inl h,(fun y h=>by cases h),fun p h=>h]
 |(n,k)::r,acc,h=>by
  rw[qCD]
  by_cases hk:(k==NameKind.free)=true
  .have hk':k=.free:=by simpa using hk
   obtain⟨c,hc⟩:=h (n,k) qAO hk'
   obtain⟨cl,e,h1,h2,h3⟩:=Fi r ((n,c)::acc) fun y hy=>h y (qAH _ hy)
   refine#[cl,?_,fun y d hd=>?_,fun y hy=>?_,fun p hp=>h3 p (qAH _ hp)]
   .have hco:cellOf env n=pure c:=by unfold cellOf;rw[hc]
    simp only[hk,if_true,hco,pure_bind]
    exact e
   .rcases h1 y d hd with z|z
    .rcases qAk.mp z with z|z
     .cases z;exact .inr hc
     .exact .inl z
    .exact .inr z
   .rcases qAk.mp hy with z|z
    .cases z;exact#[c,h3 _ qAO]
    .exact h2 y z
  .obtain⟨cl,e,h1,h2,h3⟩:=Fi r acc fun y hy=>h y (qAH _ hy)
   refine#[cl,?_,h1,fun y hy=>?_,h3]
   .simp only[hk,Bool.false_eq_true,if_false,pure_bind]
    exact e
   .rcases qAk.mp hy with z|z
    .cases z;exact absurd rfl hk
    .exact h2 y z
theorem BB {α:Type}{y:Str}{c:α}:∀{l:List (Str×α)},l.lookup y=some c->(y,c)∈l
 |[],h=>by cases h
 |(n,d)::r,h=>by
  rw[qBe] at h
  cases q:y==n with
  |true => rw[q] at h;cases h;have:y=n:=by simpa using q
           subst this;exact qAO
  |false=>rw[q] at h;exact qAH _ (BB h)
theorem GW {α:Type}{y:Str}{c:α}:∀{l:List (Str×α)},(y,c)∈l->∃d,l.lookup y=some d
 |(n,d)::r,h=>by
  rw[qBe]
  cases q:y==n with
  |true=>exact#[d,rfl]
  |false =>
   rcases qAk.mp h with z|z
   .cases z;simp at q
   .exact GW z
theorem G9 {scope:Scope}{env:Env}(h:∀y∈scope.names,y.2=.free->∃c,env.cells.lookup y.1=some c) :
 ∃cl,closureFor scope env=pure cl/\(∀y c,cl.lookup y=some c->env.cells.lookup y=some c)/\∀y,(y,NameKind.free)∈scope.names->∃c,cl.lookup y=some c:=by
 obtain⟨cl,e,h1,h2,_⟩:=Fi scope.names [] h
 refine#[cl,?_,fun y c hc=>?_,fun y hy=>?_]
 .unfold closureFor
  first|(simp only[bind_pure];exact e)|exact e
 .rcases h1 y c (BB hc) with z|z
  .cases z
  .exact z
 .obtain⟨c,hc⟩:=h2 y hy
  exact GW hc
def AQ (X:Cx)(N:List Str)(scope:Scope)(cl:List (Str×Addr))(C:Addr)(s₀:Shared)(H₀:Hp)(fp:List Addr):Cx :=
 { X with N:=N,s₀:=s₀,H₀:=H₀,env:=compEnvC scope cl C X.env,outer:=X.stack,ex:=fp,fn:=fun _=>false,pn:=[],xe:=fun _ _=>False,lent:=none }
theorem CT {env:Env}:∀{names:List (Str×NameKind)}{x:Str}{k:NameKind},(names.map fun(n,k)=>if (k==NameKind.free&&env.scope.kind == .function&&env.kindOf n==some .cell) then (n,NameKind.cell) else (n,k)).lookup x=some k ->
 ∃k0,(x,k0)∈names/\(k=k0\/k0=.free)
 |[],_,_,h=>by cases h
 |(n,k1)::r,x,k,h=>by
  have h':List.lookup x ((if (k1==NameKind.free&&env.scope.kind == .function&&env.kindOf n==some .cell)=true then (n,NameKind.cell) else (n,k1))::(r.map fun(n,k)=>if (k==NameKind.free&&env.scope.kind == .function&&env.kindOf n==some .cell) then (n,NameKind.cell) else (n,k)))=some k:=h
  by_cases hc:(k1==NameKind.free&&env.scope.kind == .function&&env.kindOf n==some .cell)=true
  .rw[if_pos hc,qBe] at h'
   have hk1:k1=.free:=by
    rw[qA2,qA2] at hc
    simpa using hc.1.1
   cases q:x==n with
   |true =>
    have:x=n:=by simpa using q
    subst this
    exact#[k1,qAO,.inr hk1]
   |false =>
    rw[q] at h'
    obtain⟨k0,h1,h2⟩:=CT h'
    exact#[k0,qAH _ h1,h2]
  .rw[if_neg hc,qBe] at h'
   cases q:x==n with
   |true =>
    rw[q] at h'
    have:x=n:=by simpa using q
    subst this
    exact#[k1,qAO,.inl (qAj h').symm]
   |false =>
    rw[q] at h'
    obtain⟨k0,h1,h2⟩:=CT h'
    exact#[k0,qAH _ h1,h2]
theorem CA {env:Env}{y:Str}(hk:env.scope.kind=.function) (hy:env.kindOf y=some .cell):∀{names:List (Str×NameKind)},names.lookup y=some .free ->
 (names.map fun(n,k)=>if (k==NameKind.free&&env.scope.kind == .function&&env.kindOf n==some .cell) then (n,NameKind.cell) else (n,k)).lookup y=some .cell
 |[],h=>by cases h
 |(n,k1)::r,h=>by
  show List.lookup y ((if (k1==NameKind.free&&env.scope.kind == .function&&env.kindOf n==some .cell)=true then (n,NameKind.cell) else (n,k1))::(r.map fun(n,k)=>if (k==NameKind.free&&env.scope.kind == .function&&env.kindOf n==some .cell) then (n,NameKind.cell) else (n,k)))=some .cell
  rw[qBe] at h
  cases q:y==n with
  |true =>
   rw[q] at h
   have:y=n:=by simpa using q
   subst this
   have hk1:k1=.free:=qAj h
   subst hk1
   rw[if_pos (by rw[hk,hy];rfl),qBe,q]
  |false =>
   rw[q] at h
   have ih:=CA hk hy h
   by_cases hc:(k1==NameKind.free&&env.scope.kind == .function&&env.kindOf n==some .cell)=true
   .rw[if_pos hc,qBe,q];exact ih
   .rw[if_neg hc,qBe,q];exact ih
structure Bo (X:Cx)(x:Str)(scope:Scope)(N:List Str)(idx:List Nat):Prop where
 kind:scope.kind=.function
 cell:∀y∈scope.names,y.2≠.cell
 names:∀y∈scope.names,y.2=.local->scope.names.lookup y.1=some .local
 own:scope.names.lookup x=some .local
 free:∀y∈scope.names,y.2=.free->X.env.kindOf y.1=some .cell
 nd:N.Nodup
 fst:N[0]? = some x
 len:N.length=idx.length+1
 cap:∀(k j:Nat),idx[k]? = some j->∃y,N[k+1]? = some y/\X.N[j]? = some y/\scope.names.lookup y=some .free
def Ey {α:Type}(σ:List (Option α)) (idx:List Nat):List (Option α):=idx.map fun j=>(σ[j]?).getD none
theorem H4 {α:Type}{σ:List (Option α)}{idx:List Nat}{k:Nat}{v:α}(h:(Ey σ idx)[k]? = some (some v)):∃j,idx[k]? = some j/\σ[j]? = some (some v):=by
 unfold Ey at h
 rw[qAh] at h
 cases e:idx[k]? with
 |none=>rw[e] at h;cases h
 |some j =>
  rw[e] at h
  refine#[j,rfl,?_]
  have h':(σ[j]?).getD none=some v:=qAj h
  cases q:σ[j]? with
  |none=>rw[q] at h';cases h'
  |some o=>rw[q] at h';rw[show o=some v from h']
section
variable {X:Cx}{pins:List (Addr×Obj)}{σ:St}{H2:Hp}{s2:Shared}{x:Str}{px:Pos}{scope:Scope}{N:List Str}{idx:List Nat}{J:It}{fp:List Addr}{it:Addr}{tn:Nat->Heap->Prop}{cl:List (Str×Addr)}
theorem Le (O:Bo X x scope N idx)(I2:Inv X pins σ H2 s2)(T:Qe X.prog X.w X.K (.Name x px) J fp it tn)(st2:tn 0 s2.heap)(f2:∀b∈fp,Nm X pins H2 b)
 (hcl:∀y c,cl.lookup y=some c->X.env.cells.lookup y=some c)(hcl2:∀y,(y,NameKind.free)∈scope.names->∃c,cl.lookup y=some c)
 {h1:Heap}{C:Addr}{m:Str->Option Value}{tk:Nat}(hC:s2.heap.objs.size<C) (hns:h1.Ns C m) (old:∀b o,s2.heap.get? b=some o->h1.get? b=some o)
 (hD:h1.get? s2.heap.objs.size=some { cls:=.type "list",data:=.seq ([]:List Value).toArray }) :
 Inv (AQ X N scope cl C s2 H2 fp) [] (none::Ey σ idx) (upd H2 s2.heap.objs.size (.lst [])) { s2 with heap:=h1,toks:=tk }:=by
 have inHeap:∀b∈fp,b<s2.heap.objs.size:=fun b hb=>by
  obtain⟨o,e,_⟩:=T.obj 0 _ st2 b hb
  exact qAi e
 have hDn:H2 s2.heap.objs.size=none:=I2.hok.fresh (qAd _)
 refine#[#[I2.ok.mod,O.kind,I2.ok.glob,I2.ok.blt,?_,?_,?_,(fun _ _ z=>by cases z),I2.ok.hd,I2.ok.frames,.inl rfl,?_,fun b o e=>I2.bs b o e,qAG I2.ok.bsz I2.sz,?_,?_,I2.stack,I2.stkFree,I2.tb],rfl,I2.bare,?_,#[m,hns,?_],?_,?_,?_,?_,?_,?_]
 .exact qBq hC
 .intro y z c h1 h2
  exact I2.ok.inj y z c (hcl y c h1) (hcl z c h2)
 .intro y hy
  have key:∀k,(relabel scope X.env).names.lookup y=some k->(k=.cell\/k=.free)->∃c,cl.lookup y=some c:=fun k e hk=>by
   obtain⟨k0,h1,h2⟩:=CT e
   have hf:k0=.free:=by
    rcases h2 with rfl|h2
    .rcases hk with rfl|rfl
     .exact absurd rfl (O.cell _ h1)
     .rfl
    .exact h2
   subst hf
   exact hcl2 y h1
  rcases hy with e|e
  .exact key _ e (.inl rfl)
  .exact key _ e (.inr rfl)
 .intro b hb
  have:=inHeap b hb
  exact#[qAF (qBP this hC),fun y c e=>(f2 b hb).2.2.2.2.1 y c (hcl y c e)]
 .intro b o e hb
  rcases(f2 b hb).2.2.2.1 with z|z
  .exact I2.ok.noex b o e z
  .exact absurd (qAq (qAi e) (qAG I2.ok.bsz z)) (qAW _)
 .intro b hb hf
  rcases qAk.mp (I2.stkSub b hf) with e|e
  .exact(f2 b hb).2.1 e
  .exact(f2 b hb).2.2.1 e
 .exact Un.laid old (qAd _) hDn
 .intro i y v e1 e2 e3
  cases i with
  |zero=>cases e2
  |succ k =>
   obtain⟨j,ej,es⟩:=H4 (k:=k) e2
   obtain⟨y',n1,n2,n3⟩:=O.cap k j ej
   have ey:y'=y:=qAj (n1.symm.trans e1)
   subst ey
   have kc:=O.free _ (BB n3) rfl
   obtain⟨m0,hn0,hl0⟩:=I2.loc
   obtain⟨u,ru,lk⟩:=hl0 j y' v n2 es (.inr (.inl kc))
   refine#[u,ru,?_]
   rcases lk with⟨k1,_⟩|⟨_,c,hc,ic⟩
   .rw[kc] at k1;cases k1
   .obtain⟨c',hc'⟩:=hcl2 y' (BB n3)
    have:c'=c:=qAj ((hcl y' c' hc').symm.trans hc)
    subst this
    exact .inr #[.inl (CA I2.ok.kind kc n3),c',hc',ic.keeps old]
 .intro y c e
  obtain⟨v,ic⟩:=I2.cell y c (hcl y c e)
  exact#[v,ic.keeps old]
 .show upd H2 _ _ C=none
  rw[Af (qBr hC)]
  exact I2.hok.fresh (qBq hC)
 .intro y c e
  obtain⟨v,ic⟩:=I2.cell y c (hcl y c e)
  rw[Af (qAF ic.lt)]
  exact I2.freeC y c (hcl y c e)
 .intro p hp;cases hp
 .exact I2.hok.laid old (qAd _) #[qAS _,[],_,.nil,hD]
 .show(none::Ey σ idx).length=N.length
  rw[O.len,qAU]
  unfold Ey
  rw[qAa]
theorem IX {σ':St}{H':Hp}{s':Shared}{pl:List (Addr×Obj)}{C:Addr}{h':Heap}(I2:Inv X pins σ H2 s2) (f2:∀b∈fp,Nm X pins H2 b) (hC:s2.heap.objs.size<C) (I':Inv (AQ X N scope cl C s2 H2 fp) pl σ' H' s') (hs:Heap.SameBut C s'.heap h') :
 Inv X pins σ H' { s' with heap:=h' }:=by
 have ne:∀b o,s2.heap.get? b=some o->b≠C:=fun b o e=>qAF (qBP (qAi e) hC)
 have u:=I'.base
 refine Inv.call' (s':={ s' with heap:=h' }) (ch:=fp) I2 I'.os #[fun b o e n hb hx=>(hs.2 b (ne b o e)).trans (u.keep b o e n hb hx),fun b o e n hb hx=>?_,u.free,fun b o e hx=>?_,u.tups,u.frzs,u.tbls] (fun b ob e=>?_) I'.bare (fun b hb=>#[(f2 b hb).2.2.2.1,(f2 b hb).2.1,(f2 b hb).2.2.2.2.1,(f2 b hb).2.2.2.2.2])
 .obtain⟨sl,e1⟩:=u.slot b o e n hb hx
  exact#[sl,(hs.2 b (ne b o e)).trans e1]
 .obtain⟨o',e1⟩:=u.there b o e hx
  exact#[o',(hs.2 b (ne b o e)).trans e1]
 .refine(I'.hok b ob e).stay (fun c w' hc q=>(hs.2 c ?_).trans q) (fun _ q=>q) fun _ _ q=>q
  have hf:H' C=none:=I'.free
  rintro rfl
  rcases hc with rfl|hc
  .rw[hf] at e;cases e
  .rw[hf] at hc;cases hc
def Q2 (X:Cx)(ifs:List Expr)(t:TT):Prop:=∀(pins:List (Addr×Obj))(s:Shared)(σ:St)(H:Hp)(Q:Bool->Hp->Prop),Inv X pins σ H s->t σ H Q ->
 wpAny (model X.prog X.w) X.A (forIn ifs true fun c r=>if r=true then do let ok <-isTrue c X.env (eval c X.env);pure (ForInStep.yield ok) else pure (ForInStep.yield r)) (TP X pins σ Q) X.xe s
theorem J4:Q2 X [] (fun _ H Q=>Q true H):=fun pins s σ H Q I h=>wpAny_pure #[H,I,h]
def Ji (K:W.Frag)(idx:List Nat)(wi:TI)(tt:Hp->TT)(te:Hp->TE):TE:=fun σ H Q=>wi σ H fun J H1=>∀D,H1 D=none->K.lookup D=none->∃W:Nat->Nat->List V->Hp->Prop,(∃m,W 0 m [] (upd H1 D (.lst []))) /\
 ∀i m ys H,H D=some (.lst ys)->W i m ys H->(J.stop i H/\Q (.ref D) H)\/(J.go i H/\∀x H',J.yld i H x H'->tt H1 (some x::Ey σ idx) H' fun b H2 =>
  if b=true then te H1 (some x::Ey σ idx) H2 (fun v H3=>H3 D=some (.lst ys)/\ys.length<sizeLine/\∃m',m'<m/\W (i+1) m' (ys++[v]) (upd H3 D (.lst (ys++[v])))) else H2 D=some (.lst ys)/\∃m',m'<m/\W (i+1) m' ys H2)
theorem Kz {elt iter:Expr}{ifs:List Expr}{wi:TI}{tt:Hp->TT}{te:Hp->TE}{pos:Pos}{s:Shared}{H:Hp}{Q:VK}{use:Option (Value->Sem Unit)}{QQ:Value->Shared->Prop}(O:Bo X x scope N idx) (hc:X.calm=true) (hi:PI X (.Name x px) iter wi)
 (hifs:∀cl C s₀ H₀ fp,Q2 (AQ X N scope cl C s₀ H₀ fp) ifs (tt H₀)) (helt:∀cl C s₀ H₀ fp,PE (AQ X N scope cl C s₀ H₀ fp) elt (te H₀))
 (hs:∀x,foldedSetIterable iter X.env x=pure x) (I:Inv X pins σ H s) (h:Ji X.K idx wi tt te σ H Q)
 (fin:∀(s2:Shared)(H2:Hp)(fp:List Addr)(cl:List (Str×Addr))(C D:Addr)(σ':St)(H':Hp)(s':Shared),Inv X pins σ H2 s2->(∀b∈fp,Nm X pins H2 b)->s2.heap.objs.size<C->Inv (AQ X N scope cl C s2 H2 fp) [] σ' H' s'->Q (.ref D) H' ->
  compPost (model X.prog X.w) X.A X.xe use QQ (.ref D) C (.ok .next) s') :
 wpAny (model X.prog X.w) X.A (comprehension (.ListComp elt [#[.Name x px,iter,ifs,0]] scope pos) scope X.env (firstIterPos [#[.Name x px,iter,ifs,0]] pos) (newList []) false (eval iter X.env) use) QQ X.xe s:=by
 obtain⟨cl,ecl,hcl,hcl2⟩:=G9 (scope:=scope) (env:=X.env) fun y hy hf=>I.ok.has y.1 (.inl (O.free y hy hf))
 refine wpAny_comprehension_free (use:=use) (cl:=cl) rfl hs ecl O.kind O.names ?_
 refine thn (hi pins s σ H _ I h) fun v s1 h1=>thn h1 fun itv s2 h2=>?_
 obtain⟨it,fp,tn,J,H2,rfl,I2,T,st2,f2,hD⟩:=h2
 refine wpAny_newObj_type (wpAny_newFunctionEnv O.cell (by intro y hy;simp at hy) (fun h1 hns hsb=>?_) O.kind)
 dsimp only at hns hsb ⊢
 generalize hG:s2.heap.push { cls:=.type "list",dict:=none,data:=.seq ([]:List Value).toArray }=G at hns hsb ⊢
 have hCs:s2.heap.objs.size<G.objs.size:=by rw[<-hG,qBS];exact qBs _
 have old:∀b o,s2.heap.get? b=some o->h1.get? b=some o:=fun b o e=>hsb.extBut b o (qAF (qBP (qAi e) hCs)) (qAe _ (hG ▸ qAe _ e))
 have hDl:h1.get? s2.heap.objs.size=some { cls:=.type "list",data:=.seq ([]:List Value).toArray }:=hsb.extBut _ _ (qAF hCs) (qAe _ (hG ▸ qAA _ rfl))
 have hDn:H2 s2.heap.objs.size=none:=I2.hok.fresh (qAd _)
 have hDk:X.K.lookup s2.heap.objs.size=none:=by
  cases e:X.K.lookup s2.heap.objs.size with
  |none=>rfl
  |some o=>exact absurd (qAi (I2.kIn _ _ e)) (qAW _)
 obtain⟨W,⟨m0,w0⟩,step⟩:=hD _ hDn hDk
 have I4:Inv (AQ X N scope cl G.objs.size s2 H2 fp) [] (none::Ey σ idx) (upd H2 s2.heap.objs.size (.lst [])) { s2 with heap:=h1,toks:=s2.toks+([]:List (Str×Value)).length } :=
  Le O I2 T st2 f2 hcl hcl2 hCs hns old hDl
 generalize hCC:G.objs.size=C at I4 hCs ⊢
 clear hsb hns hG hCC
 generalize hDD:s2.heap.objs.size=D at hDn hDk step w0 I4 hDl ⊢
 have st4:tn 0 h1:=T.keep 0 _ _ st2 fun b _ o e=>old b o e
 have frD:∀b∈fp,(upd H2 D (.lst [])) b=none:=fun b hb=>by
  obtain⟨o,e,_⟩:=T.obj 0 _ st2 b hb
  rw[Af (by rw[<-hDD];exact qAF (qAi e))]
  exact(f2 b hb).1
 have stat:∀{H':Hp},(∀b∈fp,H' b=none)->∀b∈fp,Nm (AQ X N scope cl C s2 H2 fp) [] H' b:=fun hn b hb =>
  #[hn b hb,(I4.ok.exf b hb).1,I4.ok.exfs b hb,.inl hb,(I4.ok.exf b hb).2,fun p hp=>by cases hp]
 have hloc:(AQ X N scope cl C s2 H2 fp).env.scope.names.lookup x=some .local:=lookup_relabel_local O.own
 have loop:∀s3:Shared,s3={ s2 with heap:=h1,toks:=s2.toks+([]:List (Str×Value)).length } ->
  codeAny (model X.prog X.w) X.A (.compLoop (.ListComp elt [#[.Name x px,iter,ifs,0]] scope pos) 0 (.ref it) (.ref D) (compEnvC scope cl C X.env)) (compPost (model X.prog X.w) X.A X.xe use QQ (.ref D) C) s3:=by
  rintro s3 rfl
  refine codeAny_compLoop_tests (fun n s'=>∃i z H' ys,Inv (AQ X N scope cl C s2 H2 fp) [] (z::Ey σ idx) H' s'/\tn i s'.heap/\(∀b∈fp,H' b=none)/\H' D=some (.lst ys)/\W i n ys H') ?_ m0 #[0,none,_,[],I4,st4,frD,Aj,w0]
  rintro n s5 ⟨i,z,H5,ys,I5,st5,fr5,hD5,w5⟩
  rcases step i n ys H5 hD5 w5 with⟨stop,q⟩|⟨go,next⟩
  .refine wpAny_mono (T.done (AQ X N scope cl C s2 H2 fp) rfl rfl rfl hc i [] s5 _ H5 (fun _ _=>False) I5 (stat fr5) st5 stop) (fun r s6 hh=>?_) fun _ _ z=>z.elim
   obtain⟨hr,I6⟩:=hh
   subst hr
   exact fin s2 H2 fp cl C D _ H5 s6 I2 f2 hCs I6 q
  .refine wpAny_mono (T.item (AQ X N scope cl C s2 H2 fp) rfl rfl rfl hc i [] s5 _ H5 (fun _ _=>False) I5 (stat fr5) st5 go) (fun r s6 hh=>?_) fun _ _ z=>z.elim
   obtain⟨u,hr,h6⟩:=hh
   subst hr
   dsimp only
   refine(show wpAny _ _ ((pure Unit.unit:Sem Unit) >>= fun _=>assign (.Name x px) (compEnvC scope cl C X.env) u) _ _ _ from wpAny_bind (wpAny_mono (show wpAny _ _ (pure Unit.unit:Sem Unit) _ _ _ from h6) (fun _ s7 h7=>?_) fun _ _ z=>z.elim))
   obtain⟨xv,H7,I7,r7,y7,st7,fr7⟩:=h7
   have I7':=I7.pinned (stat fr7) (T.obj _ _ st7)
   refine wpAny_assign_Name (FU (X:=AQ X N scope cl C s2 H2 fp) I7' O.nd O.fst (.inl hloc) r7 (fun s8 I8=>?_) (.inr hloc))
   have again:∀{H9:Hp}{s9:Shared}{ys':List V}{m':Nat},Inv (AQ X N scope cl C s2 H2 fp) ([]++II fp s7.heap) (some xv::Ey σ idx) H9 s9->H9 D=some (.lst ys')->m'<n->W (i+1) m' ys' H9 ->
    ∃m,m<n/\∃i z H' ys,Inv (AQ X N scope cl C s2 H2 fp) [] (z::Ey σ idx) H' s9/\tn i s9.heap/\(∀b∈fp,H' b=none)/\H' D=some (.lst ys)/\W i m ys H':=fun {H9 s9 ys' m'} I9 hD9 hm w9=>by
    refine#[m',hm,i+1,some xv,H9,ys',I9.unpinned,T.keep _ _ _ st7 fun b hb o e=>(I9.pin (b,o) (qAJ _ (qAJ _ (DZ hb e)))).1,fun b hb=>?_,hD9,w9]
    obtain⟨o,e,d⟩:=T.obj _ _ st7 b hb
    exact(I9.pin (b,o) (qAJ _ (qAJ _ (DZ hb e)))).2.1
   refine wpAny_mono (hifs cl C s2 H2 fp _ s8 _ H7 _ I8 (next xv H7 y7)) (fun b s9 hh=>?_) fun _ _ z=>z.elim
   obtain⟨H9,I9,q9⟩:=hh
   cases b with
   |true =>
    rw[if_pos rfl] at q9 ⊢
    refine wpAny_mono (helt cl C s2 H2 fp _ s9 _ H9 _ I9 q9) (fun y s10 hh=>?_) fun _ _ z=>z.elim
    obtain⟨v,H10,I10,r10,hD10,hl,m',hm,w'⟩:=hh
    refine wpAny_mono (AB (X:=AQ X N scope cl C s2 H2 fp) _ s10 _ H10 (.ref D) [v] (.ref D) [y] (fun _ H'=>H'=upd H10 D (.lst (ys++[v]))) I10 rfl (.cons r10 .nil) #[D,ys,v,rfl,rfl,hD10,hl,rfl]) (fun _ s11 hh=>?_) fun _ _ z=>z.elim
    obtain⟨_,H11,I11,_,e11⟩:=hh
    subst e11
    exact again I11 Aj hm w'
   |false =>
    rw[if_neg qAm] at q9 ⊢
    obtain⟨hD9,m',hm,w'⟩:=q9
    exact again I9 hD9 hm w'
 exact codeAny_compStart_list (loop _ rfl) (T.self X.A 0 _ _ _ st4 (loop _ rfl))
theorem PH {elt iter:Expr}{ifs:List Expr}{wi:TI}{tt:Hp->TT}{te:Hp->TE}{pos:Pos}(O:Bo X x scope N idx) (hc:X.calm=true) (hi:PI X (.Name x px) iter wi)
 (hifs:∀cl C s₀ H₀ fp,Q2 (AQ X N scope cl C s₀ H₀ fp) ifs (tt H₀)) (helt:∀cl C s₀ H₀ fp,PE (AQ X N scope cl C s₀ H₀ fp) elt (te H₀))
 (hs:∀x,foldedSetIterable iter X.env x=pure x:=by intro _;rfl):PE X (.ListComp elt [#[.Name x px,iter,ifs,0]] scope pos) (Ji X.K idx wi tt te):=by
 intro pins s σ H Q I h
 rw[eval_ListComp]
 refine Kz (use:=none) O hc hi hifs helt hs I h fun s2 H2 fp cl C D σ' H' s' I2 f2 hC I' q=>?_
 obtain⟨m,hn,_⟩:=I'.loc
 exact#[m,hn,fun h' hs'=>#[.ref D,H',IX I2 f2 hC I' hs',rfl,q]]
theorem QN {C:Addr}{h':Heap}{H:Hp}{s:Shared}(I:Inv X pins σ H s) (hs:Heap.SameBut C s.heap h') (h0:X.s₀.heap.objs.size<=C) (hH:H C=none) (hL:C≠X.env.locals) (hc:∀y c,X.env.cells.lookup y=some c->c≠C) (hp:∀p∈X.pn++pins,p.1≠C) :
 Inv X pins σ H { s with heap:=h' }:=by
 obtain⟨m,hn,hl⟩:=I.loc
 have ne:∀b o,X.s₀.heap.get? b=some o->b≠C:=fun b o e=>qAF (qAq (qAi e) h0)
 refine#[I.ok,I.os,I.bare,#[fun b o e n hb hx=>(hs.2 b (ne b o e)).trans (I.base.keep b o e n hb hx),fun b o e n hb hx=>?_,I.base.free,fun b o e hx=>?_,I.base.tups,I.base.frzs,I.base.tbls],#[m,hn.sameBut hs (Ne.symm hL),fun i y v e1 e2 e3=>?_],fun y c e=>?_,I.free,I.freeC,fun p hq=>?_,fun b ob e=>?_,I.len]
 .obtain⟨sl,e1⟩:=I.base.slot b o e n hb hx
  exact#[sl,(hs.2 b (ne b o e)).trans e1]
 .obtain⟨o',e1⟩:=I.base.there b o e hx
  exact#[o',(hs.2 b (ne b o e)).trans e1]
 .obtain⟨u,ru,lk⟩:=hl i y v e1 e2 e3
  refine#[u,ru,?_]
  rcases lk with lk|⟨k,c,e,ic⟩
  .exact .inl lk
  .exact .inr #[k,c,e,ic.sameBut hs (hc y c e)]
 .obtain⟨v,ic⟩:=I.cell y c e
  exact#[v,ic.sameBut hs (hc y c e)]
 .obtain⟨e,n,ne',nf,d⟩:=I.pin p hq
  exact#[(hs.2 p.1 (hp p hq)).trans e,n,ne',nf,d]
 .refine(I.hok b ob e).stay (fun c w' hc' q=>(hs.2 c ?_).trans q) (fun _ q=>q) fun _ _ q=>q
  rintro rfl
  rcases hc' with rfl|hc'
  .rw[hH] at e;cases e
  .rw[hH] at hc';cases hc'
def QF (i:Nat)(te:TE):TS:=fun D σ H=>te σ H fun v H1=>D.nx (σ.set i (some v)) H1
theorem Fj {i:Nat}{y:Str}{py spos:Pos}{elt iter:Expr}{ifs:List Expr}{wi:TI}{tt:Hp->TT}{te:Hp->TE}{pos:Pos}(O:Bo X x scope N idx) (hc:X.calm=true) (hi:PI X (.Name x px) iter wi)
 (hifs:∀cl C s₀ H₀ fp,Q2 (AQ X N scope cl C s₀ H₀ fp) ifs (tt H₀)) (helt:∀cl C s₀ H₀ fp,PE (AQ X N scope cl C s₀ H₀ fp) elt (te H₀)) (hN:X.N.Nodup) (hy:X.N[i]? = some y) (hly:Loc X.env.scope y)
 (hsw:swapsWith (.ListComp elt [#[.Name x px,iter,ifs,0]] scope pos) (some (.Name y py)) spos.line X.env=pure true:=by rfl) (hs:∀x,foldedSetIterable iter X.env x=pure x:=by intro _;rfl)
 (hfn:X.fn y=true\/X.env.scope.names.lookup y=some .local:=by first|exact .inl rfl|exact .inr rfl|assumption) :
 PS X (.Assign [.Name y py] (.ListComp elt [#[.Name x px,iter,ifs,0]] scope pos) spos) (QF i (Ji X.K idx wi tt te)):=by
 intro pins s σ H D I h
 rw[exec_Assign_Name_used _ _ _ _ hsw]
 refine wpAny_bind (wpAny_standAt (wpAny_bind ?_))
 show wpAny _ X.A (do let _ <-comprehension (.ListComp elt [#[.Name x px,iter,ifs,0]] scope pos) scope X.env _ (newList []) false (eval iter X.env) (some (assign (.Name y py) X.env))) _ _ s
 refine wpAny_bind (wpAny_mono (Kz (use:=some (assign (.Name y py) X.env)) (QQ:=fun _ s'=>SP X pins D .next s') O hc hi hifs helt hs I h fun s2 H2 fp cl C E σ' H' s' I2 f2 hC I' q=>?_) (fun _ s' hq=>wpAny_pure (wpAny_pure hq)) fun _ _ e=>e)
 have I3:Inv X pins σ H' s':=IX (h':=s'.heap) I2 f2 hC I' #[rfl,fun _ _=>rfl]
 obtain⟨mC,hnC,_⟩:=I'.loc
 have h0:X.s₀.heap.objs.size<=C:=qAG I2.sz (qBq hC)
 have hCL:C≠X.env.locals:=qBr (qBP I2.lt hC)
 have hCc:∀y c,X.env.cells.lookup y=some c->c≠C:=fun y c e=>by
  obtain⟨v,ic⟩:=I2.cell y c e
  exact qAF (qBP ic.lt hC)
 have hCp:∀p∈X.pn++pins,p.1≠C:=fun p hp=>qAF (qBP (qAi (I2.pin p hp).1) hC)
 show wpAny _ X.A (assign (.Name y py) X.env (.ref E)) _ _ _
 refine wpAny_assign_Name (Ip (v:=.ref E) I3 hN hy hly rfl (fun s4 I4 hb=>?_) hfn)
 obtain⟨a,hsa,ha⟩:=hb
 have hCa:C≠a:=by
  rcases ha with rfl|ha
  .exact hCL
  .exact fun z=>hCc y a ha z.symm
 exact#[mC,hnC.sameBut hsa hCa,fun h' hs'=>#[_,H',QN I4 hs' h0 I'.free hCL hCc hCp,q]]
end
abbrev TX3:=Tau->(List D->Prop)->Prop
def Src (X:Cx)(wi:TI)(ws:TX3):Prop:=∀(B:HZ)(τ:Tau)(σ:St)(H z:Hp)(P:List D->Prop)(R:It->Hp->Prop),Rep X B τ σ #[H,z]->ws τ P ->
 (∀(J:It)(q:HZ)(xs:List D),Ext #[H,z] q->P xs->(∀H',AG q.h H'->(∀i,i<xs.length->J.go i H'/\∀x H'',J.yld i H' x H''->H''=H'/\∃d,xs[i]? = some d/\Is X.K q.z x d)/\∀i,xs.length<=i->J.stop i H')->R J q.h)->wi σ H R
def U0 (te:TE3):TX3:=fun τ P=>te τ fun s=>match items s with
 |some xs=>P xs
 |none=>False
theorem HA {X:Cx}{q:HZ}{a:Addr}{vs:List V}{xs:List D}(h:SqL X.K q.h a vs) (hi:Iss X.K q.z vs xs):∀H',AG q.h H'->(∀i,i<xs.length->(Itl X.K a).go i H'/\∀x H'',(Itl X.K a).yld i H' x H''->H''=H'/\∃d,xs[i]? = some d/\Is X.K q.z x d)/\∀i,xs.length<=i->(Itl X.K a).stop i H':=by
 intro H' e
 have h':SqL X.K H' a vs:=e.seq h
 refine#[fun i hlt=>#[#[vs,vs[i]'(by rw[hi.1];exact hlt),h',qAb (by rw[hi.1];exact hlt)],fun x H'' hy=>#[hy.1,?_]],fun i hle=>#[vs,h',by rw[hi.1];exact hle]]
 obtain⟨d,h1,h2⟩:=Dl hi (hy.2 vs h')
 exact#[d,h1,h2]
theorem QK {X:Cx}{q:HZ}{a:Addr}{vs:List V}{xs:List D}(h:SqT X.K q.h a vs) (hi:Iss X.K q.z vs xs):∀H',AG q.h H'->(∀i,i<xs.length->(Itt X.K a).go i H'/\∀x H'',(Itt X.K a).yld i H' x H''->H''=H'/\∃d,xs[i]? = some d/\Is X.K q.z x d)/\∀i,xs.length<=i->(Itt X.K a).stop i H':=by
 intro H' e
 have h':SqT X.K H' a vs:=SqT.same e h
 refine#[fun i hlt=>#[#[vs,vs[i]'(by rw[hi.1];exact hlt),h',qAb (by rw[hi.1];exact hlt)],fun x H'' hy=>#[hy.1,?_]],fun i hle=>#[vs,h',by rw[hi.1];exact hle]]
 obtain⟨d,h1,h2⟩:=Dl hi (hy.2 vs h')
 exact#[d,h1,h2]
section
variable {X:Cx}{e:Expr}{te:TE3}{ta:TA3}
theorem JR:Src X (QW X.K (FE X te)) (U0 te):=by
 intro B τ σ H z P R r ht k
 refine#[B,z,τ,_,r,ht,fun s v H1 e1 i1 f1 h1=>?_]
 try dsimp only at h1
 split at h1
 .rename_i xs hx
  cases s with
  |d z =>
   cases z with
   |tup zs =>
    cases hx
    obtain⟨p,vs,rfl,h3,h4⟩:=Is.tup_inv i1
    exact#[p,rfl,.inr #[#[vs,SqT.same e1.sub h3],k _ H1 _ e1 h1 (QK (SqT.same e1.sub h3) h4)]]
   |lst zs =>
    cases hx
    obtain⟨p,vs,rfl,h3,h4⟩:=Is.lst_inv i1
    exact#[p,rfl,.inl #[#[vs,e1.sub.seq h3],k _ H1 _ e1 h1 (HA (e1.sub.seq h3) h4)]]
   |_=>cases hx
  |l zs =>
   cases hx
   obtain⟨p,vs,rfl,h3,h4⟩:=i1
   exact#[p,rfl,.inl #[#[vs,SqL.of h3],k _ H1 _ e1 h1 (HA (SqL.of h3) h4)]]
  |r zs =>
   cases hx
   obtain⟨p,vs,rfl,h3,h4⟩:=i1
   exact#[p,rfl,.inl #[#[vs,h3],k _ H1 _ e1 h1 (HA h3 h4)]]
 .exact h1.elim
def QP (lo st:Int)(n:Nat):List D:=(List.range n).map fun(i:Nat)=>D.int (lo+i*st)
theorem AV (lo st:Int)(n:Nat):(QP lo st n).length=n:=by unfold QP;rw[qAa,qAt]
theorem HY {lo st:Int}{n i:Nat}(h:i<n):(QP lo st n)[i]? = some (.int (lo+i*st)):=by
 unfold QP
 rw[qAh,qA6 h]
 rfl
def Um (ta:TA3):TX3:=fun τ P=>ta τ fun ss=>match ss with
 |[.d (.int j)]=>(-(2^62)<=j/\j<2^62)/\P (QP 0 1 j.toNat)
 |_=>False
def TY (ta:TA3):TX3:=fun τ P=>ta τ fun ss=>match ss with
 |[.d (.int i),.d (.int j)]=>(-(2^62)<=i/\i<2^62/\-(2^62)<=j/\j<2^62)/\P (QP i 1 (j-i).toNat)
 |_=>False
theorem FY:Src X (Ql (FA X ta)) (Um ta):=by
 intro B τ σ H z P R r ht k
 refine#[B,z,τ,_,r,ht,fun ss vs H1 e1 i1 h1=>?_]
 try dsimp only at h1
 split at h1
 .rename_i j
  obtain⟨v,rfl,hv⟩:=L5 i1
  cases Is.int_inv hv
  obtain⟨⟨q1,q2⟩,hP⟩:=h1
  refine#[j,rfl,q1,q2,k _ H1 _ e1 hP fun H' e=>#[fun i hlt=>?_,fun i hle=>?_]]
  .rw[AV] at hlt
   refine#[hlt,fun x H'' hy=>#[hy.1,_,HY hlt,?_]]
   rw[hy.2,qBI]
   exact .int _
  .rw[AV] at hle;exact hle
 .exact h1.elim
theorem J1:Src X (Pr (FA X ta)) (TY ta):=by
 intro B τ σ H z P R r ht k
 refine#[B,z,τ,_,r,ht,fun ss vs H1 e1 i1 h1=>?_]
 try dsimp only at h1
 split at h1
 .rename_i i0 j
  obtain⟨v,u,rfl,hv,hu⟩:=RU i1
  cases Is.int_inv hv
  cases Is.int_inv hu
  obtain⟨q,hP⟩:=h1
  refine#[i0,j,rfl,q,k _ H1 _ e1 hP fun H' e=>#[fun i hlt=>?_,fun i hle=>?_]]
  .rw[AV] at hlt
   refine#[hlt,fun x H'' hy=>#[hy.1,_,HY hlt,?_]]
   rw[hy.2,qBI]
   exact .int _
  .rw[AV] at hle;exact hle
 .exact h1.elim
end
def N7 (τ:Tau)(idx:List Nat)(x:D):Tau:=some (.d x)::(Ey τ idx).map (Option.map S.share)
structure Me (X:Cx)(ifs:List Expr)(t:TT3):Prop where
 out:Q2 X ifs (FT X t)
def Vg:TT3:=fun _ R=>R true
theorem Dm {X:Cx}:Me X [] Vg:=#[fun pins s σ H Q I #[B,z,τ,R,r,ht,q]=>J4 pins s σ H Q I (q true #[H,z] (Ext.refl r.ext.sub) ht)]
abbrev cxC (X:Cx)(N:List Str)(scope:Scope)(H₀:Hp):Cx:=AQ X N scope [] 0 X.s₀ H₀ []
section
variable {X:Cx}{x:Str}{px pos:Pos}{scope:Scope}{N:List Str}{idx:List Nat}{cl:List (Str×Addr)}{C:Addr}{s₀:Shared}{H₀ H H':Hp}{fp:List Addr}{σ:St}{τ:Tau}
theorem OF {B p:HZ}(r:Rep (cxC X N scope H₀) B τ σ p):Rep (AQ X N scope cl C s₀ H₀ fp) B τ σ p:=#[r.len,r.ext,r.val,r.own,r.sep,r.top,r.pin]
theorem Ov {α β:Type}(a:List (Option α)) (b:List (Option β)) (idx:List Nat):(Ey a idx).length=(Ey b idx).length:=by unfold Ey;rw[qAa,qAa]
theorem Kk {B p p0 q:HZ}{d:D}{v:V}(r:Rep X B τ σ p) (e:Ext p p0) (e':Ext p0 q) (iv:Is X.K q.z v d):Rep (cxC X N scope p0.h) p0 (N7 τ idx d) (some v::Ey σ idx) q:=by
 have no:∀(i:Nat)(xs:List D),¬(N7 τ idx d)[i]? = some (some (.l xs)):=fun i xs z=>by
  cases i with
  |zero=>cases z
  |succ k =>
   have z':((Ey τ idx).map (Option.map S.share))[k]? = some (some (.l xs)):=z
   rw[qAh] at z'
   cases q:(Ey τ idx)[k]? with
   |none=>rw[q] at z';cases z'
   |some o =>
    rw[q] at z'
    cases o with
    |none=>cases z'
    |some s0 =>
     have z2:s0.share=.l xs:=qAj (qAj z')
     cases s0<;>cases z2
 refine#[?_,e',fun i s hs=>?_,fun i xs a z _=>absurd z (no i xs),fun i j xs s a _ z _ _ _=>absurd z (no i xs),fun _=>AG.refl _,fun k a h=>by cases h]
 .unfold N7
  rw[qAU,qAU,qAa,Ov]
 .cases i with
  |zero =>
   cases hs
   exact#[v,rfl,iv]
  |succ k =>
   have z':((Ey τ idx).map (Option.map S.share))[k]? = some (some s):=hs
   rw[qAh] at z'
   cases q:(Ey τ idx)[k]? with
   |none=>rw[q] at z';cases z'
   |some o =>
    rw[q] at z'
    cases o with
    |none=>cases z'
    |some s0 =>
     have z2:s0.share=s:=qAj (qAj z')
     obtain⟨j,hj,hτ⟩:=H4 q
     obtain⟨w,hw,iw⟩:=r.val j s0 hτ
     refine#[w,?_,?_]
     .show(Ey σ idx)[k]? = some (some w)
      unfold Ey
      rw[qAh,hj]
      show some ((σ[j]?).getD none)=_
      rw[hw]
      rfl
     .rw[<-z2]
      exact(iw.mono (e.trans e')).share
end
def QJ (idx:List Nat)(ws:TX3)(tt:TT3)(te:TE3):TE3:=fun τ R=>ws τ fun xs=>∃os:List (Option D),os.length=xs.length /\
 (∀(n:Nat)(x:D),xs[n]? = some x->tt (N7 τ idx x) fun b=>if b=true then te (N7 τ idx x) (fun s=>dd s.arg fun y=>os[n]? = some (some y)) else os[n]? = some none)/\xs.length<=1000000/\R (.l (os.filterMap id))
section
variable {X:Cx}{x:Str}{px pos:Pos}{scope:Scope}{N:List Str}{idx:List Nat}{elt iter:Expr}{ifs:List Expr}{wi:TI}{ws:TX3}{tt:TT3}{te:TE3}
theorem JY (hsrc:Src X wi ws){σ:St}{H:Hp}{Q:VK}(h:FE X (QJ idx ws tt te) σ H Q):Ji X.K idx wi (fun H₀=>FT (cxC X N scope H₀) tt) (fun H₀=>FE (cxC X N scope H₀) te) σ H Q:=by
 obtain⟨B,z,τ,R,r,ht,q⟩:=h
 refine hsrc B τ σ H z _ _ r ht fun J p1 xs e1 hP hJ=>fun D' hD hK=>?_
 obtain⟨os,hlen,hel,hsz,hR⟩:=hP
 have sz:(1000000:Nat)<sizeLine:=∅
 refine#[fun i m ys H'=>m=xs.length-i/\i<=xs.length/\∃z',Ext p1 #[H',z']/\z' D'=none/\Iss X.K z' ys ((os.take i).filterMap id),#[xs.length,rfl,qAS _,p1.z,Ext.own e1.sub hD _,e1.sub.free hD,Iss.nil],?_]
 rintro i m ys H' hD' ⟨rfl,hi,z',hs,hzD,hiss⟩
 by_cases hlt:i<xs.length
 .obtain⟨go,yl⟩:=(hJ H' hs.hh).1 i hlt
  refine .inr #[go,fun v H'' hy=>?_]
  obtain⟨rfl,d,hx,iv⟩:=yl v H'' hy
  have rr:Rep (cxC X N scope p1.h) p1 (N7 τ idx d) (some v::Ey σ idx) #[H'',z']:=Kk r e1 hs (iv.mono hs.zz)
  have hys:ys.length<=i:=by
   rw[hiss.1]
   refine qAG (qCw _ _) ?_
   rw[qAT];omega
  have keep:∀q:HZ,Ext #[H'',z'] q->q.z D'=none:=fun q e=>by
   cases y:q.z D' with
   |none=>rfl
   |some o =>
    rcases e.new D' o y with y|y
    .exact nomatch (hzD.symm.trans y)
    .exact nomatch (hD'.symm.trans y)
  refine#[_,_,_,_,rr,hel i d hx,fun b q3 e3 hb=>?_]
  cases b with
  |true =>
   rw[if_pos rfl] at hb ⊢
   refine#[_,_,_,_,rr.mono e3,hb,fun s v2 q4 e4 i4 f4 h4=>?_]
   obtain⟨y,hy',h4⟩:=C0 h4
   obtain⟨z5,e5,i5⟩:=DG e4 i4 f4
   rw[hy'] at i5
   have e35:=e3.trans e5
   have hD4:q4.h D'=some (.lst ys):=e35.hh _ _ hD'
   have hz5:z5 D'=none:=keep _ e35
   refine#[hD4,(),xs.length-(i+1),(),rfl,hlt,z5,?_,hz5,?_]
   .have e15:=hs.trans e35
    refine#[fun b o hb'=>?_,e15.zz,fun b o hb'=>?_,e15.new]
    .have hne:b≠D':=by rintro rfl;rw[hD] at hb';cases hb'
     show upd q4.h D' _ b=some o
     rw[Af hne]
     exact e15.hh b o hb'
    .have hne:b≠D':=by
      rintro rfl
      have hb2:z5 b=some o:=hb'
      rw[hz5] at hb2;cases hb2
     show upd q4.h D' _ b=some o
     rw[Af hne]
     exact e15.sub b o hb'
   .rw[qCs,h4,qCI]
    exact(hiss.mono e35.zz).snoc i5
  |false =>
   rw[if_neg qAm] at hb ⊢
   refine#[e3.hh _ _ hD',xs.length-(i+1),(),rfl,hlt,q3.z,hs.trans e3,keep _ e3,?_]
   rw[qCs,hb,qCI]
   have:([none]:List (Option D)).filterMap id=[]:=rfl
   show Iss X.K q3.z ys ((os.take i).filterMap id++([none]:List (Option D)).filterMap id)
   rw[this,qBL]
   exact hiss.mono e3.zz
 .have ei:i=xs.length:=()
  subst ei
  refine .inl #[(hJ H' hs.hh).2 _ (qAd _),q (.l (os.filterMap id)) _ #[H',z'] (e1.trans hs) #[D',ys,rfl,hD',?_] (fun xs a _ h2=>?_) hR]
  .rw[<-hlen,List.take_length] at hiss
   exact hiss
  .cases h2
   exact#[e1.hh.free hD,hK,hzD]
theorem JI (hifs:∀cl C s₀ H₀ fp,Me (AQ X N scope cl C s₀ H₀ fp) ifs tt):∀cl C s₀ H₀ fp,Q2 (AQ X N scope cl C s₀ H₀ fp) ifs (FT (cxC X N scope H₀) tt):=fun cl C s₀ H₀ fp pins s σ H Q I #[B,z,τ,R,r,ht,q] =>
 (hifs cl C s₀ H₀ fp).out pins s σ H Q I #[B,z,τ,R,OF r,ht,q]
theorem JU (helt:∀cl C s₀ H₀ fp,PE3 (AQ X N scope cl C s₀ H₀ fp) elt te):∀cl C s₀ H₀ fp,PE (AQ X N scope cl C s₀ H₀ fp) elt (FE (cxC X N scope H₀) te):=fun cl C s₀ H₀ fp pins s σ H Q I #[B,z,τ,R,r,ht,q] =>
 (helt cl C s₀ H₀ fp).out pins s σ H Q I #[B,z,τ,R,OF r,ht,q]
theorem L8 (O:Bo X x scope N idx)(hc:X.calm=true)(hi:PI X (.Name x px) iter wi)(hsrc:Src X wi ws)(hifs:∀cl C s₀ H₀ fp,Me (AQ X N scope cl C s₀ H₀ fp) ifs tt)(helt:∀cl C s₀ H₀ fp,PE3 (AQ X N scope cl C s₀ H₀ fp) elt te)
 (hs:∀x,foldedSetIterable iter X.env x=pure x:=by intro _;rfl):PE3 X (.ListComp elt [#[.Name x px,iter,ifs,0]] scope pos) (QJ idx ws tt te) :=
 #[Br (PH O hc hi (JI hifs) (JU helt) hs) fun σ H Q h=>JY hsrc h]
theorem OO {i:Nat}{y:Str}{py spos:Pos}(O:Bo X x scope N idx) (hc:X.calm=true) (hi:PI X (.Name x px) iter wi) (hsrc:Src X wi ws) (hifs:∀cl C s₀ H₀ fp,Me (AQ X N scope cl C s₀ H₀ fp) ifs tt) (helt:∀cl C s₀ H₀ fp,PE3 (AQ X N scope cl C s₀ H₀ fp) elt te)
 (hN:X.N.Nodup) (hy:X.N[i]? = some y) (hly:Loc X.env.scope y)
 (hsw:swapsWith (.ListComp elt [#[.Name x px,iter,ifs,0]] scope pos) (some (.Name y py)) spos.line X.env=pure true:=by rfl) (hs:∀x,foldedSetIterable iter X.env x=pure x:=by intro _;rfl)
 (hfn:X.fn y=true\/X.env.scope.names.lookup y=some .local:=by first|exact .inl rfl|exact .inr rfl|assumption) (hp:Dz X i:=by first|exact CZ rfl|exact pin_ne rfl ∅|assumption) :
 PS3 X (.Assign [.Name y py] (.ListComp elt [#[.Name x px,iter,ifs,0]] scope pos) spos) (S9 i (QJ idx ws tt te)) :=
 #[BK (Fj O hc hi (JI hifs) (JU helt) hN hy hly hsw hs hfn) fun D2 σ H hh=>by obtain⟨B,z,τ,D3,r,ht,c⟩:=hh;exact JY hsrc #[B,z,τ,_,r,ht,fun s v H' e i f h=>by
  cases s with
  |r _=>exact h.elim
  |d y=>exact c.nx _ _ _ (r.set e i f rfl hp) h
  |l ys=>exact c.nx _ _ _ (r.set e i f rfl hp) h]]
end
def Kh (fN:List Str)(scope:Scope)(N:List Str):Nat->List Nat->Bool
 |_,[]=>true
 |k,j::r=>(match N[k+1]?,fN[j]? with
  |some y,some y'=>y==y'&&(scope.names.lookup y==some NameKind.free)
  |_,_=>false)&&Kh fN scope N (k+1) r
def Nj (fsc:Scope)(fN:List Str)(x:Str)(scope:Scope)(N:List Str)(idx:List Nat):Bool :=
 (scope.kind == .function)&&scope.names.all (fun y=>!(y.2 == .cell))&&scope.names.all (fun y=>!(y.2 == .local)||scope.names.lookup y.1==some .local)&&(scope.names.lookup x==some NameKind.local) &&
 scope.names.all (fun y=>!(y.2 == .free)||fsc.names.lookup y.1==some .cell)&&decide N.Nodup&&(N[0]? == some x)&&(N.length==idx.length+1)&&Kh fN scope N 0 idx
theorem O7 {fN:List Str}{scope:Scope}{N:List Str}:∀{idx:List Nat}{k0:Nat},Kh fN scope N k0 idx=true->∀(k j:Nat),idx[k]? = some j->∃y,N[k0+k+1]? = some y/\fN[j]? = some y/\scope.names.lookup y=some .free
 |[],_,_,_,_,h=>by simp at h
 |i::r,k0,h,k,j,hk=>by
  unfold Kh at h
  rw[qA2] at h
  cases k with
  |zero =>
   have e:i=j:=by simpa using hk
   subst e
   obtain⟨h1,_⟩:=h
   split at h1
   .rename_i y y' e1 e2
    rw[qA2] at h1
    have ey:y=y':=by simpa using h1.1
    subst ey
    exact#[y,e1,e2,by simpa using h1.2]
   .cases h1
  |succ k =>
   obtain⟨y,a,b,c⟩:=O7 h.2 k j (by simpa using hk)
   exact#[y,by rw[<-a];congr 1;omega,b,c]
theorem Bo.mk' {X:Cx}{x:Str}{scope:Scope}{N:List Str}{idx:List Nat}(fsc:Scope) (fN:List Str) (h1:X.env.scope=fsc) (h2:X.N=fN) (h:Nj fsc fN x scope N idx=true):Bo X x scope N idx:=by
 subst h1 h2
 unfold Nj at h
 simp only[qA2] at h
 obtain⟨⟨⟨⟨⟨⟨⟨⟨a1,a2⟩,a3⟩,a4⟩,a5⟩,a6⟩,a7⟩,a8⟩,a9⟩:=h
 refine#[by simpa using a1,fun y hy=>?_,fun y hy hl=>?_,by simpa using a4,fun y hy hf=>?_,by simpa using a6,by simpa using a7,by simpa using a8,fun k j hk=>?_]
 .have:=qAr.mp a2 y hy
  simpa using this
 .have:=qAr.mp a3 y hy
  rw[hl] at this
  simpa using this
 .have:=qAr.mp a5 y hy
  rw[hf] at this
  show X.env.scope.names.lookup y.1=some .cell
  simpa using this
 .have:=O7 a9 k j hk
  simpa using this
section
variable {X:Cx}{e a b c:Expr}{te ta tb tc:TE3}{pos:Pos}
theorem Ta {t:TE}(h:PE X e t):PE X e (fun σ H Q=>t σ H fun v H'=>(∀a o,H' a=some o->X.K.lookup a=none)->Q v H'):=fun pins s σ H Q I q =>
 thn (h pins s σ H _ I q) fun u s1 #[v,H1,I1,r1,q1]=>#[v,H1,I1,r1,q1 fun a o e=>by
  cases y:X.K.lookup a with
  |none=>rfl
  |some o' =>
   have:=(I1.bs a o' (I1.ok.mod.kin a o' y)).2
   rw[e] at this
   cases this]
def Tr:R3:=fun dx dy R=>match dx,dy with
 |.tup xs,.tup ys=>xs≠[]/\xs.length+ys.length<=1000000/\R (.tup (xs++ys))
 |.lst xs,.lst ys=>xs.length+ys.length<=1000000/\R (.lst (xs++ys))
 |.int i,.int j=>R (.int (i+j))
 |_,_=>False
theorem Iss.append {K:W.Frag}{H:Hp}{vs ws:List V}{xs ys:List D}(h:Iss K H vs xs) (h':Iss K H ws ys):Iss K H (vs++ws) (xs++ys):=by
 refine#[by simp[h.1,h'.1],fun i v x h1 h2=>?_]
 by_cases hi:i<vs.length
 .rw[qAI hi] at h1
  rw[qAI (by have:=h.1;omega)] at h2
  exact h.2 i v x h1 h2
 .rw[qAK ()] at h1
  rw[qAK (by have:=h.1;omega)] at h2
  have:=h.1
  exact h'.2 (i-vs.length) v x h1 (by rw[this];exact h2)
theorem Gk {K:W.Frag}{H:Hp}{vs:List V}{xs:List D}(h:Iss K H vs xs):vs=[] ↔ xs=[]:=by
 have:=h.1
 constructor
 .rintro rfl;exact qA0 (by simpa using this.symm)
 .rintro rfl;exact qA0 (by simpa using this)
theorem Ux:F6 X (binaryOp .Add) Tr:=Fe ((P6.or Sd).or OI) fun x y H Q hh=>by
 obtain⟨z,dx,dy,R,hz,hx,hy,h3,q⟩:=hh
 have sz:(1000000:Nat)<sizeLine:=∅
 unfold Tr at h3
 split at h3
 .rename_i xs ys
  obtain⟨h1,h2,h3⟩:=h3
  obtain⟨p,vs,rfl,g1,g2⟩:=Is.tup_inv hx
  obtain⟨p',ws,rfl,g1',g2'⟩:=Is.tup_inv hy
  refine .inl (.inl #[p,p',vs,ws,rfl,rfl,SqT.same hz g1,SqT.same hz g1',fun w=>h1 ((Gk g2).mp w),by rw[g2.1,g2'.1];omega,fun w=>?_,fun w l hl=>?_])
  .have:ys=[]:=(Gk g2').mp w
   subst this
   rw[qBL] at h3
   exact q _ _ #[H,z] (Ext.refl hz) hx h3
  .have j:=(g2.append g2').mono (Bz (hz.free hl) (.tup (vs++ws)))
   exact q _ _ _ (Ext.lay hz hl (.tup (vs++ws))) (Is.tup (SqT.of Aj) j.1 j.2) h3
 .rename_i xs ys
  obtain⟨h2,h3⟩:=h3
  obtain⟨p,vs,rfl,g1,g2⟩:=Is.lst_own hx
  obtain⟨p',ws,rfl,g1',g2'⟩:=Is.lst_own hy
  refine .inl (.inr #[p,p',vs,ws,rfl,rfl,hz _ _ g1,hz _ _ g1',by rw[g2.1,g2'.1];omega,fun l hl=>?_])
  have j:=(g2.append g2').mono (Bz (hz.free hl) (.lst (vs++ws)))
  exact q _ _ _ (Ext.lay hz hl (.lst (vs++ws))) (Is.lst Aj j.1 j.2) h3
 .rename_i i j
  exact .inr #[i,j,hx.int_inv,hy.int_inv,q _ _ #[H,z] (Ext.refl hz) (.int _) h3]
 .exact h3.elim
def LA (xs:List D)(lo hi:Option Int):List D:=(xs.drop (HT.sIx xs.length 0 lo)).take (HT.sIx xs.length xs.length hi-HT.sIx xs.length 0 lo)
theorem LV {K:W.Frag}{H:Hp}{vs:List V}{xs:List D}(h:Iss K H vs xs) (lo hi:Option Int):Iss K H (Ly vs lo hi) (LA xs lo hi):=by
 unfold Ly LA
 rw[h.1]
 refine#[by simp[h.1],fun i v x h1 h2=>?_]
 rw[List.getElem?_take] at h1 h2
 split at h1
 .rename_i hlt
  rw[if_pos hlt] at h2
  rw[qCj] at h1 h2
  exact h.2 _ v x h1 h2
 .cases h1
abbrev TO3:=Tau->(Option Int->Prop)->Prop
structure PO3 (X:Cx)(e:Option Expr)(t:TO3):Prop where
 out:PO X e (fun σ H Q=>∃B z τ R,Rep X B τ σ #[H,z]/\t τ R/\∀o q,Ext #[H,z] q->R o->Q o q.h)
def oNo:TO3:=fun _ R=>R none
def Vk (te:TE3):TO3:=fun τ R=>te τ fun s=>match s with
 |.d (.int i)=>R (some i)
 |_=>False
theorem Vv:PO3 X none oNo:=#[fun pins s σ H Q I #[B,z,τ,R,r,ht,q]=>Qu pins s σ H Q I (q none #[H,z] (Ext.refl r.ext.sub) ht)]
theorem Ul (h:PE3 X e te):PO3 X (some e) (Vk te):=#[fun pins s σ H Q I #[B,z,τ,R,r,ht,q]=>QS h.out pins s σ H Q I #[B,z,τ,_,r,ht,fun s v q1 e1 i1 f1 h1=>by
 split at h1
 .rename_i i
  exact#[i,Is.int_inv i1,q _ _ e1 h1]
 .exact h1.elim]]
def vSl (te:TE3)(lo hi:TO3):TE3:=fun τ R=>te τ fun x=>lo τ fun l=>hi τ fun u=>match x with
 |.d (.tup xs)=>¬(HT.sIx xs.length 0 l=0/\HT.sIx xs.length xs.length u=xs.length)/\R (.d (.tup (LA xs l u)))
 |.d (.lst xs)=>R (.l (LA xs l u))
 |.l xs=>R (.l (LA xs l u))
 |.r xs=>R (.l (LA xs l u))
 |_=>False
theorem Vf {lo hi:Option Expr}{tl th:TO3}{p2:Pos}(he:PE3 X e te) (hl:PO3 X lo tl) (hh:PO3 X hi th):PE3 X (.Subscript e (.Slice lo hi none p2) pos) (vSl te tl th) :=
 #[Br (Ta (NJ (RI.or P7) he.out hl.out hh.out)) fun σ H Q hh=>by
  obtain⟨B,z,τ,R,r,ht,q⟩:=hh
  refine#[B,z,τ,_,r,ht,fun x v q1 e1 i1 f1 h1=>?_]
  refine#[B,_,τ,_,r.mono e1,h1,fun l q2 e2 h2=>?_]
  refine#[B,_,τ,_,(r.mono e1).mono e2,h2,fun u q3 e3 h3=>?_]
  have e23:=e2.trans e3
  have i1':=IsS.mono e23 i1
  have lists:∀(p:Addr)(vs:List V)(xs:List D),v=.ref p->SqL X.K q3.h p vs->Iss X.K q3.z vs xs->R (.l (LA xs l u))->∃a xs,v=.ref a/\SqL X.K q3.h a xs/\∀p,q3.h p=none->((∀a o,upd q3.h p (.lst (Ly xs l u)) a=some o->X.K.lookup a=none)->Q (.ref p) (upd q3.h p (.lst (Ly xs l u)))):=fun p vs xs hv hs hi hR =>
   #[p,vs,hv,hs,fun d hd hk=>q (.l (LA xs l u)) _ #[_,q3.z] ((e1.trans e23).trans (Ext.own e23.sub hd _)) #[d,_,rfl,Aj,LV hi l u] (fun ys a _ h2=>by
    cases h2
    exact#[(e1.trans e23).hh.free hd,hk d _ Aj,e23.sub.free hd]) hR]
  split at h3
  .rename_i xs
   obtain⟨p,vs,rfl,g1,g2⟩:=Is.tup_inv i1'
   refine .inl #[p,vs,rfl,SqT.same e23.sub g1,by rw[g2.1];exact h3.1,fun d hd _=>?_]
   have j:=(LV g2 l u).mono (Bz (e23.sub.free hd) (.tup (Ly vs l u)))
   exact q (.d _) _ _ ((e1.trans e23).trans (Ext.lay e23.sub hd (.tup (Ly vs l u)))) (Is.tup (SqT.of Aj) j.1 j.2) EB h3.2
  .rename_i xs
   obtain⟨p,vs,rfl,g1,g2⟩:=Is.lst_inv i1'
   exact .inr (lists p vs xs rfl (e23.sub.seq g1) g2 h3)
  .rename_i xs
   obtain⟨p,vs,rfl,g1,g2⟩:=i1'
   exact .inr (lists p vs xs rfl (SqL.of g1) g2 h3)
  .rename_i xs
   obtain⟨p,vs,rfl,g1,g2⟩:=i1'
   exact .inr (lists p vs xs rfl g1 g2 h3)
  .exact h3.elim]
def PJ (te:TE3):TE3:=fun τ R=>te τ fun s=>match items s with
 |some xs=>R (.l xs)
 |none=>False
def RR (te:TE3):TE3:=fun τ R=>te τ fun s=>match items s with
 |some xs=>R (.d (.tup xs))
 |none=>False
theorem O6 {K:W.Frag}{p:HZ}{v:V}{s:S}{xs:List D}(i:IsS K p v s) (hz:AG p.z p.h) (h:items s=some xs):∃a vs,v=.ref a/\Iss K p.z vs xs/\((SqL K p.h a vs)\/(SqT K p.z a vs/\s=.d (.tup xs))):=by
 cases s with
 |d z =>
  cases z with
  |tup zs=>cases h;obtain⟨a,vs,rfl,g1,g2⟩:=Is.tup_inv i;exact#[a,vs,rfl,g2,.inr #[g1,rfl]]
  |lst zs=>cases h;obtain⟨a,vs,rfl,g1,g2⟩:=Is.lst_inv i;exact#[a,vs,rfl,g2,.inl (hz.seq g1)]
  |_=>cases h
 |l zs=>cases h;obtain⟨a,vs,rfl,g1,g2⟩:=i;exact#[a,vs,rfl,g2,.inl (SqL.of g1)]
 |r zs=>cases h;obtain⟨a,vs,rfl,g1,g2⟩:=i;exact#[a,vs,rfl,g2,.inl g1]
theorem Kg {p:Pos}(he:PE3 X e te) (hg:Gl X "list") (hm:X.mg "list"=none) (hs:starEach [e] X.env=(false,eval e X.env)::starEach [] X.env:=by exact Ct rfl):PE3 X (.Call (.Name "list" p) [e] [] pos) (PJ te) :=
 #[Br (Ta (Co BZ hg hm qA5 (Ak he.out AA hs) (he:=hs))) fun σ H Q hh=>by obtain⟨B,z,τ,R,r,ht,q⟩:=hh;exact#[B,z,τ,_,r,ht,fun s v q1 e1 i1 f1 h1=>by
  split at h1
  .rename_i xs hx
   obtain⟨a,vs,rfl,g2,g1⟩:=O6 i1 e1.sub hx
   refine#[a,vs,rfl,g1.elim .inl fun g=>.inr (SqT.same e1.sub g.1),fun d hd hk=>?_]
   exact q (.l xs) _ #[_,q1.z] (e1.trans (Ext.own e1.sub hd _)) #[d,vs,rfl,Aj,g2] (fun ys a _ h2=>by
    cases h2
    exact#[e1.hh.free hd,hk d _ Aj,e1.sub.free hd]) h1
  .exact h1.elim]]
theorem JO {p:Pos}(he:PE3 X e te) (hg:Gl X "tuple") (hm:X.mg "tuple"=none) (hs:starEach [e] X.env=(false,eval e X.env)::starEach [] X.env:=by exact Ct rfl):PE3 X (.Call (.Name "tuple" p) [e] [] pos) (RR te) :=
 #[Br (Co HE hg hm qBi (Ak he.out AA hs) (he:=hs)) fun σ H Q hh=>by obtain⟨B,z,τ,R,r,ht,q⟩:=hh;exact#[B,z,τ,_,r,ht,fun s v q1 e1 i1 f1 h1=>by
  split at h1
  .rename_i xs hx
   obtain⟨a,vs,rfl,g2,g1⟩:=O6 i1 e1.sub hx
   refine#[a,vs,rfl,?_]
   rcases g1 with g1|⟨g1,rfl⟩
   .refine .inl #[g1,fun d hd=>?_]
    have j:=g2.mono (Bz (e1.sub.free hd) (.tup vs))
    exact q (.d _) _ _ (e1.trans (Ext.lay e1.sub hd (.tup vs))) (Is.tup (SqT.of Aj) j.1 j.2) EB h1
   .exact .inr #[SqT.same e1.sub g1,q (.d _) _ q1 e1 i1 EB h1]
  .exact h1.elim]]
end
section
variable {X:Cx}{e a b c:Expr}{te ta tb tc ti:TE3}{pos:Pos}
theorem Rep.put {B:HZ}{H z:Hp}{τ:Tau}{σ:St}{i:Nat}{xs ys':List D}{l:Addr}{vs vs':List V}(r:Rep X B τ σ #[H,z]) (hi:τ[i]? = some (some (.l xs))) (hσ:σ[i]? = some (some (.ref l)))
 (hl:H l=some (.lst vs)) (hv:Iss X.K z vs' ys'):Rep X B (τ.set i (some (.l ys'))) σ #[upd H l (.lst vs'),z]:=by
 obtain⟨o1,o2,o3⟩:=r.own i xs l hi hσ
 refine#[by simp[r.len],#[fun b o h=>?_,r.ext.zz,fun b o h=>?_,r.ext.new],fun j s hj=>?_,fun j ys a hj ha=>?_,fun j k ys s a hjk hj hk hs ha=>?_,r.top,r.pin]
 .have hb:b≠l:=by
   rintro rfl
   rw[h] at o1
   cases o1
  show upd H l _ b=some o
  rw[Af hb]
  exact r.ext.hh b o h
 .have hb:b≠l:=by
   rintro rfl
   have h':z b=some o:=h
   rw[show z b=none from o3] at h'
   cases h'
  show upd H l _ b=some o
  rw[Af hb]
  exact r.ext.sub b o h
 .rcases Au hj with⟨rfl,rfl⟩|⟨hn,hj⟩
  .exact#[.ref l,hσ,l,_,rfl,Aj,hv]
  .obtain⟨v,h1,h2⟩:=r.val j s hj
   refine#[v,h1,?_]
   cases s with
   |d x=>exact h2
   |l ys =>
    obtain⟨b,ws,rfl,h3,h4⟩:=h2
    have hb:b≠l:=by
     rintro rfl
     exact r.sep i j xs (.l ys) b (fun z=>hn z.symm) hi hj rfl hσ h1
    exact#[b,ws,rfl,by show upd H l _ b=_;rw[Af hb];exact h3,h4]
   |r ys =>
    obtain⟨b,ws,rfl,h3,h4⟩:=h2
    have hb:b≠l:=by
     rintro rfl
     exact r.sep i j xs (.r ys) b (fun z=>hn z.symm) hi hj rfl hσ h1
    refine#[b,ws,rfl,?_,h4]
    rcases h3 with (h3|⟨o,h3⟩)|h3
    .exact .inl (.inl (by show upd H l _ b=_;rw[Af hb];exact h3))
    .exact .inl (.inr #[o,by show upd H l _ b=_;rw[Af hb];exact h3])
    .exact .inr h3
 .rcases Au hj with⟨rfl,_⟩|⟨hn,hj⟩
  .exact r.own j xs a hi ha
  .exact r.own j ys a hj ha
 .rcases Au hj with⟨rfl,_⟩|⟨hn,hj'⟩
  .rcases Au hk with⟨e3,_⟩|⟨hkn,hk'⟩
   .exact absurd e3.symm hjk
   .exact r.sep j k xs s a hjk hi hk' hs ha
  .rcases Au hk with⟨rfl,rfl⟩|⟨hkn,hk'⟩
   .exact r.sep j k ys (.l xs) a hjk hj' hi rfl ha
   .exact r.sep j k ys s a hjk hj' hk' hs ha
def UG (i:Nat)(te ti:TE3):TS3:=fun D3 τ=>match τ[i]? with
 |some (some (.l xs))=>te τ fun s=>dd s.arg fun d=>ti τ fun k=>match k with
  |.d (.int n)=>∃j,ixN xs.length n=some j/\D3.nx (τ.set i (some (.l (xs.set j d))))
  |_=>False
 |_=>False
theorem Iss.set {K:W.Frag}{H:Hp}{vs:List V}{xs:List D}{v:V}{x:D}(h:Iss K H vs xs) (j:Nat) (hx:Is K H v x):Iss K H (vs.set j v) (xs.set j x):=by
 refine#[by simp[h.1],fun i w y h1 h2=>?_]
 rw[qCr] at h1 h2
 by_cases hij:j=i
 .rw[if_pos hij] at h1 h2
  split at h1
  .cases h1
   split at h2
   .cases h2;exact hx
   .cases h2
  .cases h1
 .rw[if_neg hij] at h1 h2
  exact h.2 i w y h1 h2
theorem RT {i:Nat}{x:Str}{ix:Expr}{px ps:Pos}(h:PS X (.Assign [.Subscript (.Name x px) ix ps] e pos) (Q1 (FE X te) (UX (Dd i) (FE X ti) Sq))):PS3 X (.Assign [.Subscript (.Name x px) ix ps] e pos) (UG i te ti):=#[BK h fun D2 σ H hh=>by
 obtain⟨B,z,τ,D3,r,ht,c⟩:=hh
 unfold UG at ht
 split at ht
 .rename_i xs hs
  refine#[B,z,τ,_,r,ht,fun s v q1 e1 i1 f1 h1=>?_]
  obtain⟨d,hd,h1⟩:=C0 h1
  obtain⟨z2,e2,i2⟩:=DG e1 i1 f1
  rw[hd] at i2
  have r2:=r.mono e2
  obtain⟨w,g1,l,vs,rfl,g2,g3⟩:=r2.val i _ hs
  refine#[.ref l,g1,B,z2,τ,_,r2,h1,fun k kv q3 e3 i3 f3 h3=>?_]
  split at h3
  .rename_i n
   obtain⟨j,hj,hn⟩:=h3
   cases Is.int_inv i3
   exact#[l,vs,n,j,rfl,rfl,e3.hh _ _ g2,by rw[g3.1];exact hj,c.nx _ _ _ ((r2.mono e3).put hs g1 (e3.hh _ _ g2) ((g3.mono e3.zz).set j (Is.mono e3.zz i2))) hn]
  .exact h3.elim
 .exact ht.elim]
def UI:S->Option (List D)
 |.d (.lst xs)=>some xs
 |.l xs=>some xs
 |.r xs=>some xs
 |_=>none
theorem OR {K:W.Frag}{p:HZ}{v:V}{s:S}{xs:List D}(i:IsS K p v s) (hz:AG p.z p.h) (h:UI s=some xs):∃a vs,v=.ref a/\Iss K p.z vs xs/\SqL K p.h a vs:=by
 cases s with
 |d z =>
  cases z with
  |lst zs=>cases h;obtain⟨a,vs,rfl,g1,g2⟩:=Is.lst_inv i;exact#[a,vs,rfl,g2,hz.seq g1]
  |_=>cases h
 |l zs=>cases h;obtain⟨a,vs,rfl,g1,g2⟩:=i;exact#[a,vs,rfl,g2,SqL.of g1]
 |r zs=>cases h;obtain⟨a,vs,rfl,g1,g2⟩:=i;exact#[a,vs,rfl,g2,g1]
end
section
variable {X:Cx}{e:Expr}{es:List Expr}{tr:TA3}{th:TS3}
end
structure GC (K:W.Frag)(mg:Str->Option Value)(x:Str)(d:D):Prop where
 ex:∃u v,mg x=some u/\BF v u/\∀H,Is K H v d
theorem Qs {X:Cx}{x:Str}{d:D}{pos:Pos}(hg:Gl X x) (c:GC X.K X.mg x d) (hd:(x==("__debug__":Str))=false:=by decide):PE3 X (.Name x pos) (vC d):=by
 obtain⟨u,v,hm,hr,hi⟩:=c.ex
 exact#[Br (Qy hg hm hr hd) fun σ H Q hh=>by obtain⟨B,z,τ,R,r,ht,q⟩:=hh;exact q (.d d) v #[H,z] (Ext.refl r.ext.sub) (hi _) EB ht]
def KD (K:W.Frag)(u:Value)(d:D):Prop:=∃v,BF v u/\∀H,Is K H v d
theorem KD.of {K:W.Frag}{mg:Str->Option Value}{x:Str}{u:Value}{d:D}(hm:mg x=some u) (h:KD K u d):GC K mg x d:=by
 obtain⟨v,r,i⟩:=h
 exact#[u,v,hm,r,i]
section
variable {K:W.Frag}
theorem KD.int {i:Int}{t}:KD K (Value.int i t) (.int i):=#[.int i,#[t,rfl],fun _=>.int i]
inductive KDs (K:W.Frag):List Value->List D->Prop where
 |nil:KDs K [] []
 |cons {u:Value}{us:List Value}{d:D}{ds:List D}:KD K u d->KDs K us ds->KDs K (u::us) (d::ds)
theorem KDs.out:∀{us:List Value}{ds:List D},KDs K us ds->∃vs,Bt vs us/\∀H,Iss K H vs ds
 |_,_,.nil=>#[[],.nil,fun _=>#[rfl,fun i v x h=>by simp at h]]
 |_,_,.cons #[v,r,i] t=>by
  obtain⟨vs,rs,is⟩:=t.out
  refine#[v::vs,.cons r rs,fun H=>#[by simp[(is H).1],fun j w x h1 h2=>?_]]
  cases j with
  |zero=>simp at h1 h2;subst h1;subst h2;exact i H
  |succ j=>exact(is H).2 j w x (by simpa using h1) (by simpa using h2)
theorem KD.tup {a:Addr}{od:Option Addr}{its:Array Value}{n:Nat}{sl:Array (Option Value)}{ds:List D}(h:K.lookup a=some #[.type "tuple",od,.seq its n,sl]) (hz:its.size<=sizeLine) (hs:KDs K its.toList ds):KD K (.ref a) (.tup ds):=by
 obtain⟨vs,rs,is⟩:=hs.out
 exact#[.ref a,rfl,fun H=>.tup (.inr #[_,its,n,h,rfl,rfl,hz,rs]) (is H).1 (is H).2]
end
section
variable {X:Cx}{e:Expr}{es:List Expr}{tr:TA3}
end
end L3
namespace CH
open PySem L2 L3
theorem Bd {i j:Int}{m n:Nat}(hi:i.natAbs<2^m) (hj:j.natAbs<2^n) (h:m+n<=134217728):IntMulOk i j :=
 PyProof.Rows.mulOk_of_bits (qCB hi) (qCB hj) h
def dg (n:Int):Nat:=if n==0 then 0 else n.natAbs.log2/30+1
theorem M4 {i:Int}{m:Nat}(h:i.natAbs<2^m):dg i<=m/30+1:=by
 unfold dg
 by_cases h0:(i==0)=true
 .rw[if_pos h0];omega
 .rw[if_neg h0]
  have hn:i.natAbs≠0:=by
   intro z
   apply h0
   have:i=0:=()
   rw[this];rfl
  have:i.natAbs.log2<m:=(Nat.log2_lt hn).mpr h
  omega
theorem Tc {i j:Int}(h:i.natAbs<2^13000):Builtin.divisionGoesByPylong i j=false:=by
 have k:=M4 h
 clear h
 show(decide (dg j>300)&&decide (dg i>dg j+150))=false
 rw[Bool.and_eq_false_iff]
 by_cases hq:dg j>300
 .exact .inr (decide_eq_false ())
 .exact .inl (decide_eq_false hq)
theorem Dg {i j:Int}(h:j.natAbs<1073741824):Builtin.divisionGoesByPylong i j=false:=PyProof.noPylong_small h
theorem nz2:(2:Int)≠0:=∅
theorem Ma (i:Int):0<=(if i<0 then -i else i):=by split<;>omega
def cell (ns:List Int)(k:Int):Int:=ns.getD k.toNat 0
theorem N3 {ns:List Int}{k:Int}(h0:0<=k) (h1:k<(ns.length:Int)):atI (ns.map D.int) k=some (.int (cell ns k)):=by
 have hk:k.toNat<ns.length:=()
 have ek:k=((k.toNat:Nat):Int):=()
 have q:atI (ns.map D.int) ((k.toNat:Nat):Int)=some (.int ns[k.toNat]):=atI_nat (by rw[qAh,qAb hk]<;>rfl)
 rw[<-ek] at q
 rw[q]
 unfold cell
 rw[qAg,qAb hk]
 rfl
abbrev I (i:Int):Option S:=some (.d (.int i))
theorem Cw {c A B:Prop} [Decidable c] (h1:c->A) (h2:¬c->B):if decide c=true then A else B:=by
 by_cases h:c
 .rw[decide_eq_true h,if_pos rfl];exact h1 h
 .rw[decide_eq_false h,if_neg qAm];exact h2 h
theorem IY {c A B:Prop} [Decidable c] (h1:¬c->A) (h2:c->B):if (!decide c)=true then A else B:=by
 by_cases h:c
 .rw[decide_eq_true h];exact h2 h
 .rw[decide_eq_false h];exact h1 h
theorem iF {b:Bool}{A B:Prop}(h:B) (hb:b=false:=by rfl):if b=true then A else B:=by subst hb;rw[if_neg qAm];exact h
end CH
namespace L3
open PySem PySem.Spec PyProof.Rows L2
section
variable {prog:Program}{w:World}{A:Around}{R:Result->Shared->Prop}{s:Shared}
theorem Py {fa:Addr}{ag:PySem.Args}{ob:Obj}{f:FuncData}{bd:Expr}{nm:Str}(hroom:A.depth<recursionLimit) (hob:s.heap.get? fa=some ob) (hdt:ob.data=.func f)
 (hc1:f.scope.isCoroutine=false) (hc2:f.scope.isGenerator=false) (hbd:f.body=.expr bd) (hcd:s.heap.CodeRec f.code nm)
 (k:wpAny (model prog w) A.in1 (bindArgs f ag) (fun bs s1=>wpAny (model prog w) A.in1 (newFunctionEnv f.scope f.globals f.closure bs (nm ++ ".<locals>.") (some fa) f.code none f.builtins)
  (fun en s2=>s2.heap.NoLimit/\codeAny (model prog w) A (.expr bd en) R s2) (fun x s3=>R (.error x) s3) s1) (fun x s3=>R (.error x) s3) s) :
 codeAny (model prog w) A (.call (.ref fa) ag) R s:=by
 refine codeAny_of_tree ?_
 show wpAny _ A.in1 (callAny (.ref fa) ag) _ _ s
 simp only[callAny]
 refine wpAny_bind (wpAny_load hob ?_)
 obtain⟨cc,oc,fs,tq,hc,hoc,hdc,hq⟩:=hcd
 simp only[hdt,callFunction,hc1,hc2,hbd,hc]
 rw[hc] at k
 refine wpAny_bind (m:=field (.ref cc) 1) (wpAny_field hoc hdc hq (wpAny_bind (wpAny_pure ?_)))
 exact wpAny_bind (wpAny_mono k (fun bs s1 k1=>wpAny_bind (wpAny_mono k1 (fun en s2 k2=>wpAny_bind (wpAny_enterFrame k2.1 hroom (wpAny_pure (And.intro rfl k2.2)))) fun _ _ z=>z)) fun _ _ z=>z)
end
structure NQ (P:Program)(w:World)(K:W.Frag)(mg:Str->Option Value)(base:Heap)(k:Nat)(s:Shared)(H:Hp)(fs:List Addr)(a:Addr)(dom:D->Prop)(p:D->Bool):Prop where
 obj:∃o u fd,H a=some (.frz o u)/\o.data=.func fd
 run:∀(A:Around)(outer:List Env)(s':Shared)(H':Hp)(v:V)(u:Value)(x:D),Eh k A->QA P w K mg base A outer s' H' ->
  (∀b o,s.heap.get? b=some o->H b=none->b∉fs->s'.heap.get? b=some o/\H' b=none)->AG H H'->BF v u->Is K H' v x->dom x ->
  codeAny (model P w) A (.call (.ref a) #[[u],[]]) (CR CX0 outer P w H' s' (fun r H2=>r=.bl (p x)/\AG H' H2) fun _ _ _=>False) s'
def Qm (X:Cx)(N:List Str)(scope:Scope)(cl:List (Str×Addr))(nm:Str)(a:Addr)(cdv:Value)(A:Around)(outer:List Env)(s:Shared)(H:Hp):Cx :=
 { X with A:=A.deeper (W.envX nm scope s.heap.objs.size a cdv cl),N:=N,s₀:=s,H₀:=H,env:=W.envX nm scope s.heap.objs.size a cdv cl,outer:=outer,stack:=W.envX nm scope s.heap.objs.size a cdv cl::outer,ex:=[],fn:=fun _=>false,calm:=true,pn:=[],xe:=fun _ _=>False,lent:=none }
def Ja (τ:Tau)(idx:List Nat):Tau:=idx.map fun j=>match τ[j]? with
 |some (some (S.d y))=>some (S.d y)
 |_=>none
section
variable {X:Cx}{pins:List (Addr×Obj)}{σ:St}{H1 H:Hp}{s1 s:Shared}{x:Str}{scope:Scope}{N:List Str}{idx:List Nat}{cl:List (Str×Addr)}
theorem Lm (I1:Inv X pins σ H1 s1)(hfn:∀y,X.fn y=true){y:Str}{c:Addr}(e:X.env.cells.lookup y=some c):c∉frs X.stack:=fun hb=>by
 rcases qAk.mp (I1.stkSub c hb) with z|z
 .exact I1.cne y c e z
 .obtain⟨_,o,ho,_⟩:=I1.ok.funs.mem z
  exact absurd (qAq (qAi ho) (I1.ok.cab y c (hfn y) e)) (qAW _)
theorem LR (O:Bo X x scope N idx)(hfn:∀y,X.fn y=true)(I1:Inv X pins σ H1 s1)(hcl:∀y c,cl.lookup y=some c->X.env.cells.lookup y=some c)(hcl2:∀y,(y,NameKind.free)∈scope.names->∃c,cl.lookup y=some c)
 {A:Around}{outer:List Env}{s':Shared}{H':Hp}(e0:QA X.prog X.w X.K X.mg X.base A outer s' H') (hd:A.handled=none)
 (st:∀b o,s1.heap.get? b=some o->H1 b=none->b∉frs X.stack->s'.heap.get? b=some o/\H' b=none){v:V}{u:Value}(r:BF v u)
 {h1:Heap}(hns:h1.Ns s'.heap.objs.size (fun y=>[(x,u)].reverse.lookup y)) (old:∀b o,s'.heap.get? b=some o->h1.get? b=some o){tk:Nat}{nm:Str}{a:Addr}{cdv:Value} :
 Inv (Qm X N scope cl nm a cdv A outer s' H') [] (some v::Ey σ idx) H' { s' with heap:=h1,toks:=tk }:=by
 have kept:∀y c,X.env.cells.lookup y=some c->∀z,s1.heap.IsCell c z->h1.IsCell c z/\H' c=none:=fun y c e z hh=>by
  obtain⟨o,ho,hd⟩:=hh
  obtain⟨g1,g2⟩:=st c o ho (I1.freeC y c e) (Lm I1 hfn e)
  exact#[#[o,old _ _ g1,hd],g2]
 refine#[#[e0.mod,O.kind,rfl,rfl,qAd _,fun y z c h1 h2=>I1.ok.inj y z c (hcl y c h1) (hcl z c h2),fun y hy=>?_,(fun _ _ z=>by cases z),fun _=>hd,Around.frames_deeper e0.frames,.inr #[rfl,rfl],(fun b z=>by cases z),e0.bs,e0.bsz,(fun _ _ _ z=>by cases z),(fun b z=>by cases z),e0.funs,e0.frf,e0.tb],
  rfl,e0.bare,Un.kept old,#[_,hns,fun i y v' e1 e2 e3=>?_],fun y c e=>?_,e0.hok.fresh (qAd _),fun y c e=>?_,(fun p hp=>by cases hp),e0.hok.kept old,?_]
 .have hy':scope.names.lookup y=some .cell\/scope.names.lookup y=some .free:=hy
  rcases hy' with z|z
  .exact absurd rfl (O.cell _ (BB z))
  .exact hcl2 y (BB z)
 .cases i with
  |zero =>
   have e1':y=x:=qAj (e1.symm.trans O.fst)
   subst e1'
   cases e2
   exact#[u,r,.inl #[O.own,by simp]]
  |succ k =>
   obtain⟨j,ej,es⟩:=H4 (k:=k) e2
   obtain⟨y',n1,n2,n3⟩:=O.cap k j ej
   have ey:y'=y:=qAj (n1.symm.trans e1)
   subst ey
   have kc:=O.free _ (BB n3) rfl
   obtain⟨m0,hn0,hl0⟩:=I1.loc
   obtain⟨u',ru,lk⟩:=hl0 j y' v' n2 es (.inr (.inl kc))
   refine#[u',ru,?_]
   rcases lk with⟨k1,_⟩|⟨_,c,hc,ic⟩
   .rw[kc] at k1;cases k1
   .obtain⟨c',hc'⟩:=hcl2 y' (BB n3)
    have:c'=c:=qAj ((hcl y' c' hc').symm.trans hc)
    subst this
    exact .inr #[.inr n3,c',hc',(kept y' c' hc _ ic).1]
 .obtain⟨z,ic⟩:=I1.cell y c (hcl y c e)
  exact#[z,(kept y c (hcl y c e) z ic).1]
 .obtain⟨z,ic⟩:=I1.cell y c (hcl y c e)
  exact(kept y c (hcl y c e) z ic).2
 .show(some v::Ey σ idx).length=N.length
  rw[O.len,qAU]
  unfold Ey
  rw[qAa]
theorem IU {τ:Tau}{idx:List Nat}{k:Nat}{y:S}(h:(Ja τ idx)[k]? = some (some y)):∃j d,idx[k]? = some j/\y=.d d/\τ[j]? = some (some (.d d)):=by
 unfold Ja at h
 rw[qAh] at h
 cases e:idx[k]? with
 |none=>rw[e] at h;cases h
 |some j =>
  rw[e] at h
  have h':=qAj h
  dsimp only at h'
  split at h'
  .rename_i d hd
   exact#[j,d,rfl,(qAj h').symm,hd]
  .cases h'
theorem R0 (O:Bo X x scope N idx)(hfn:∀y,X.fn y=true)(I1:Inv X pins σ H1 s1)(hcl:∀y c,cl.lookup y=some c->X.env.cells.lookup y=some c)(hcl2:∀y,(y,NameKind.free)∈scope.names->∃c,cl.lookup y=some c)
 {a c':Addr}{fo oc:Obj}{fs:Array Value}{nm qual:Str}{tq kb:Nat}{u1 u2:HO}{params:Arguments}{body:Expr}{pm ctv:Value}{tb:TE3}{dom:D->Prop}{p:D->Bool}{B:HZ}{z:Hp}{τ:Tau}
 (ha:H1 a=some (.frz fo u1)) (hfo:fo.data=.func (qCf "<lambda>" qual params body scope cl pm (.ref c') ctv)) (hc:H1 c'=some (.frz oc u2)) (hoc:oc.data=.fields fs) (hfs:fs[1]? = some (.str nm tq))
 (hco:scope.isCoroutine=false) (hgen:scope.isGenerator=false) (hbind:∀(q:Str)(cl:List (Str×Addr))(pm cv ct u:Value),bindArgs (qCf "<lambda>" q params body scope cl pm cv ct) #[[u],[]]=pure [(x,u)])
 (hb:∀cl nm a cdv A outer s H,Eh kb (A.deeper (W.envX nm scope s.heap.objs.size a cdv cl))->PE3 (Qm X N scope cl nm a cdv A outer s H) body tb)
 (rep:Rep X B τ σ #[H1,z]) (hdom:∀x,dom x->tb (some (.d x)::Ja τ idx) fun s=>s=.d (.bl (p x))):NQ X.prog X.w X.K X.mg X.base (kb+1) s1 H1 (frs X.stack) a dom p:=by
 refine#[#[fo,u1,_,ha,hfo],fun A outer s' H' v u d hr e0 st sm rv is dm=>?_]
 have ga:s'.heap.get? a=some fo:=(e0.hok a _ (sm _ _ ha)).1
 have gc:s'.heap.get? c'=some oc:=(e0.hok c' _ (sm _ _ hc)).1
 have lim:s'.heap.NoLimit:=e0.mod.nolimit.keeps fun b o e=>(e0.bs b o e).1
 refine Py (nm:=nm) hr.depth ga hfo hco hgen rfl #[c',oc,fs,tq,rfl,gc,hoc,hfs] ?_
 rw[hbind]
 refine wpAny_pure (wpAny_newFunctionEnv O.cell (fun y hy=>?_) (fun h1 hns hsb=>?_) O.kind)
 .have:y=(x,u):=by simpa using hy
  subst this
  exact O.own
 have old:∀b o,s'.heap.get? b=some o->h1.get? b=some o:=fun b o e=>hsb.extBut b o (qAF (qAi e)) (qAe _ e)
 refine#[lim.keeps old,?_]
 show codeAny _ _ (.expr body (W.envX nm scope s'.heap.objs.size a (.ref c') cl)) _ _
 have J:=LR (nm:=nm) (a:=a) (cdv:=.ref c') (tk:=s'.toks + [(x,u)].length) O hfn I1 hcl hcl2 e0 hr.hd st rv hns old
 refine W.kla_codeExpr (wpAny_mono ((hb cl nm a (.ref c') A outer s' H' (hr.deeper _)).out [] _ _ H' (fun r H2=>r=.bl (p d)/\AG H' H2) J #[#[H',H'],H',some (.d d)::Ja τ idx,fun s=>s=.d (.bl (p d)),?_,hdom d dm,fun s2 v2 q2 e2 i2 f2 h2=>?_])
  (fun r s2 #[v2,H2,J2,r2,hq]=>#[v2,H2,J2.os,J2.bare,J2.base,J2.hok,r2,hq]) fun _ _ z=>z.elim)
 .have noL:∀(i:Nat)(xs:List D),¬(some (S.d d)::Ja τ idx)[i]? = some (some (.l xs)):=fun i xs z=>by
   cases i with
   |zero=>cases z
   |succ k=>obtain⟨_,_,_,e,_⟩:=IU (k:=k) z;cases e
  refine#[by simp[Ey,Ja],Ext.refl (AG.refl _),fun i y hy=>?_,fun i xs _ z _=>absurd z (noL i xs),fun i _ xs _ _ _ z _ _ _=>absurd z (noL i xs),fun _=>AG.refl _,fun k a h=>by cases h]
  cases i with
  |zero=>cases hy;exact#[v,rfl,is]
  |succ k =>
   obtain⟨j,y',ej,ey,et⟩:=IU (k:=k) hy
   subst ey
   obtain⟨v',e1,e2⟩:=rep.val j _ et
   refine#[v',?_,(Is.mono rep.ext.sub e2).mono sm]
   show(Ey σ idx)[k]? = _
   unfold Ey
   rw[qAh,ej]
   show some ((σ[j]?).getD none)=_
   rw[e1]
   rfl
 .subst h2
  exact#[Is.bl_inv i2,e2.hh]
end
section
variable {X:Cx}{pins:List (Addr×Obj)}{σ:St}{H:Hp}{s:Shared}
theorem HS {pos pos':Pos}{c cv:Value}:∀(l:List Value),TriplesOk l->codeAmong pos' (l++[rawInt pos.line,rawInt pos.col,c])=some cv->codeAmong pos' l=some cv\/cv=c:=by
 intro l h
 fun_induction TriplesOk l with
 |case1 =>
  intro e
  simp only[List.nil_append,codeAmong,rawInt] at e
  split at e
  .exact .inr (qAj e).symm
  .cases e
 |case2 a t b u x rest ih =>
  intro e
  simp only[List.cons_append,codeAmong] at e ⊢
  split at e
  .rename_i hc;rw[if_pos hc];exact .inl e
  .rename_i hc;rw[if_neg hc];exact ih h e
 |case3 l h1 h2=>exact h.elim
theorem N8 {x:Str}{c T:Addr}{params:Arguments}{body:Expr}{scope:Scope}{pos:Pos}{cl:List (Str×Addr)}{E:Value->Shared->Prop}{QQ:Value->Shared->Prop}(I:Inv X pins σ H s) (ht:W.tabIn X.K x=some (c,T)) (hp:(recsOf X.prog).any (fun d=>d.name==x)=true)
 (hcode:X.env.code=.ref c) (hdef:defaultsOf params X.env=([],[])) (hcl:closureFor scope X.env=pure cl)
 (h:∀(a c':Addr)(H':Hp)(s':Shared)(fo oc:Obj)(fs:Array Value)(nm qual:Str)(tq:Nat)(pm ctv:Value),Inv X pins σ H' s'->AG H H'->H' a=some (.frz fo (.own T))->fo.data=.func (qCf "<lambda>" qual params body scope cl pm (.ref c') ctv) ->
  H' c'=some (.frz oc (.own T))->oc.data=.fields fs->fs[1]? = some (.str nm tq)->QQ (.ref a) s') :
 wpAny (model X.prog X.w) X.A (eval (.Lambda params body scope pos) X.env) QQ E s:=by
 obtain⟨hd,ps,hT⟩:=I.tb.tab x c T ht hp
 obtain⟨bm,ob,b1,b2,b3,b4,b5,b6⟩:=I.tb.bm
 obtain⟨tab,e1,tr,cod⟩:=(show Jp H s.heap T from I.hok T _ hT)
 have tabNe:∀{b:Addr}{o:Obj},X.base.get? b=some o->b≠T:=fun {b o} e z=>by
  have:=(I.bs b o e).2
  rw[z,hT] at this
  cases this
 have hgs:s.heap.Ns mainGlobals X.mg:=I.mod.glob.keeps I.bk
 have hgT:mainGlobals≠T:=by
  obtain⟨o,_,_,e,_⟩:=I.mod.glob
  exact tabNe e
 have hbG:bm≠mainGlobals:=fun z=>by
  obtain⟨o,es,ep,e,d,_⟩:=I.mod.glob
  rw[z,e] at b3;cases b3;rw[d] at b6;cases b6
 have hB:s.heap.BuiltinsAt X.mg T:=#[bm,ob,b1,b2,hbG,tabNe b3,I.bk _ _ b3,b4,b5,b6]
 refine W.kla_eval hdef ?_
 cases hf:codeAmong pos tab.toList with
 |some cv =>
  obtain⟨c',oc,fs,nm,tq,rfl,hc',hoc,hfs⟩:=cod pos cv hf
  refine W.kla_makeFunctionHit (mg:=X.mg) hcl I.ok.glob hgs hcode (hd.keeps I.bk) e1 tr hf hB fun ctv h' tk old sz=>?_
  refine h h'.objs.size c' (upd H h'.objs.size (.frz _ (.own T))) _ _ oc fs nm _ tq _ ctv (I.laid (fun b o e=>qAe _ (old b o e)) sz #[qAA _ rfl,_,qAA _ rfl]) (Bz (I.hok.fresh sz) _) Aj rfl ?_ hoc hfs
  rw[Af (qAF (qAq (I.hok.lt hc') sz))]
  exact hc'
 |none =>
  refine W.kla_makeFunction (mg:=X.mg) hcl I.ok.glob hgs hcode (hd.keeps I.bk) e1 tr hf hgT hB fun c' ctv h' tk hx hge hlt hrec htb=>?_
  obtain⟨c2,oc,fs,tq,ec,hoc,hdt,hfs⟩:=hrec
  cases ec
  have nT:∀{b:Addr}{o:Obj},s.heap.get? b=some o->b≠T->h'.get? b=some o:=fun {b o} e z=>hx b o z e
  have fresh1:H c'=none:=I.hok.fresh hge
  have cT:T≠c':=qAF (qAq (qAi e1) hge)
  have s1:AG H (upd H c' (.frz oc (.own T))):=Bz fresh1 _
  have ok1:HOk X.prog X.w (upd H c' (.frz oc (.own T))) h':=fun b u e=>by
   by_cases hb:b=c'
   .subst hb
    rw[Aj] at e
    cases e
    exact#[hoc,oc,hoc]
   .rw[Af hb] at e
    by_cases hb2:b=T
    .subst hb2
     rw[hT] at e
     cases e
     refine#[_,htb,by rw[Array.toList_append];exact TriplesOk_snoc _ _ _ _ tr,fun pos' cv z=>?_]
     rw[Array.toList_append] at z
     rcases HS _ tr z with z|z
     .obtain⟨c3,o3,f3,n3,t3,q1,q2,q3⟩:=cod pos' cv z
      exact#[c3,o3,f3,n3,t3,q1,s1 _ _ q2,q3]
     .exact#[c',oc,fs,_,tq,z,Aj,hdt,hfs]
    .refine(I.hok b u e).stay (hf:=fun d w1 w2 q=>s1 _ _ q) (fun d o hdd q=>nT q ?_) (fun d q=>s1 _ _ q) fun d xs q=>s1 _ _ q
     rcases hdd with rfl|hdd
     .exact hb2
     .rintro rfl
      rw[hT] at hdd
      cases hdd
  have un1:Un X.fs [] H (upd H c' (.frz oc (.own T))) s.heap h':=by
   refine#[fun b o e n _ _=>nT e (fun z=>by rw[z,hT] at n;cases n),fun b o e n _ _=>#[o.slots,nT e (fun z=>by rw[z,hT] at n;cases n)],fun b o e n _=>?_,fun b o e _=>?_,fun b xs q=>s1 _ _ q,fun b o u q=>s1 _ _ q,fun b ps q=>#[(List.toArray []),by rw[s1 _ _ q];simp]]
   .rw[Af (qAF (qAq (qAi e) hge))];exact n
   .by_cases z:b=T
    .subst z;exact#[_,htb]
    .exact#[o,nT e z]
  have I1:Inv X pins σ (upd H c' (.frz oc (.own T))) { s with heap:=h',toks:=tk }:=I.un un1 ok1
  have I2:=I1.laid (a:=h'.objs.size) (o:=.frz (W.kla_obj "<lambda>" (X.env.qual ++ "<lambda>") params body scope cl ((X.mg "__name__").getD .none) c' ctv) (.own T)) (t':=tk) (h':=h'.push (W.kla_obj "<lambda>" (X.env.qual ++ "<lambda>") params body scope cl ((X.mg "__name__").getD .none) c' ctv))
   (fun b o e=>qAe _ e) (qAd _) #[qAA _ rfl,_,qAA _ rfl]
  refine h h'.objs.size c' _ _ _ oc fs _ _ tq _ ctv I2 (s1.trans (Bz (I1.hok.fresh (qAd _)) _)) Aj rfl ?_ hdt hfs
  rw[Af (qAF hlt)]
  exact Aj
end
abbrev SpL:=Addr->(D->Prop)->(D->Bool)->Sp3
structure K4 (P:Program)(w:World)(K:W.Frag)(mg:Str->Option Value)(base:Heap)(k kl:Nat)(f:Addr)(fd:FuncData)(ps:List Str)(sp:SpL):Prop where
 len:∀a dom p ss R U,sp a dom p ss R U->ss.length=ps.length
 run:∀(A:Around)(outer:List Env)(s:Shared)(H:Hp)(args:PySem.Args)(us:List Value)(vs:List V)(Q:VK)(E:XK)(a:Addr)(dom:D->Prop)(p:D->Bool),Eh k A->QA P w K mg base A outer s H->BindsTo s fd args (ps.zip us)->Bt vs us ->
  NQ P w K mg base kl s H (frs outer) a dom p->Ag K mg (sp a dom p) vs H Q E->codeAny (model P w) A (.call (.ref f) args) (CR CX0 outer P w H s Q E) s
structure Tq (P:Program)(w:World)(K:W.Frag)(mg:Str->Option Value)(base:Heap)(k kl:Nat)(x:Str)(ps:List Str)(sp:SpL):Prop where
 ex:∃f fd,K4 P w K mg base k kl f fd ps sp/\mg x=some (.ref f)/\W.keepIn K (.ref f)=true/\JE K fd ps []
section
variable {P:Program}{w:World}{K:W.Frag}{mg:Str->Option Value}{base:Heap}
theorem fnL {x qual:Str}{st:Stmt}{f:Addr}{fd:FuncData}{N ps:List Str}{k kl:Nat}{sp:SpL}(F:Fun K x qual st f fd) (Sc:Ae N ps (Ac st)) (len:∀a dom p ss R U,sp a dom p ss R U->ss.length=ps.length)
 (hbody:∀(cdv:Value)(A:Around)(outer:List Env)(s:Shared)(H:Hp)(E:XK)(a:Addr)(dom:D->Prop)(p:D->Bool)(ss:List S)(R:S->Prop)(U:Str->Prop),Eh k (A.deeper (envOfC qual (Ac st) s.heap.objs.size f cdv))->NQ P w K mg base kl s H (frs outer) a dom p->sp a dom p ss R U ->
  ∃t,CY (JB CX0 P w K mg base N qual (Ac st) f cdv A outer s H E).nox (B4 st) t/\t { nx:=fun _=>R (.d .non),rt:=R } (DS N ss)):K4 P w K mg base (k+1) kl f fd ps sp:=by
 obtain⟨oc,od,kV,doc,pm,an,cdv,ct,osl,rfl,lk,hcd⟩:=F.ex
 refine#[len,fun A outer s H args us vs Q E a dom p hr e0 hb rv hL hh=>?_]
 obtain⟨z,ss,R,U,hz,ha,h3,q,qe⟩:=hh
 have hl:vs.length=ps.length:=ha.1.trans (len _ _ _ _ _ _ h3)
 have KX:K.In s.heap:=e0.mod.kin.keeps fun b o e=>(e0.bs b o e).1
 have lim:s.heap.NoLimit:=e0.mod.nolimit.keeps fun b o e=>(e0.bs b o e).1
 refine codeAny_call_function hr.depth (KX _ _ lk) rfl Sc.co Sc.gen rfl (W.codeRec_of KX hcd) (hb _ _ _ _ ?_)
 refine wpAny_newFunctionEnv_cells Sc.kind (fun y hy=>?_) fun env he s1 xx=>?_
 .obtain⟨n,v⟩:=y
  rcases Sc.par n (qB8 hy).1 with g|g
  .exact .inl g
  .exact .inr #[g,qBX _ _ _ (.inl g)]
 subst he
 refine#[lim.keeps xx.toInCall.keep,codeAny_func ?_]
 obtain⟨t,ht,hq⟩:=hbody cdv A outer s H E a dom p ss R U (hr.deeper _) hL h3
 have I:Inv (JB CX0 P w K mg base N qual (Ac st) f cdv A outer s H E) [] (start N vs) H s1:=Io Sc hr.hd e0 hl rv xx
 refine wpAny_mono (ht.out.nox [] s1 (start N vs) H { nx:=fun _ H'=>Q .non H',rt:=Q } I #[#[H,z],z,DS N ss,_,ED ha hz (AG.refl H),hq,#[fun τ σ p r h=>q (.d .non) _ p r.ext Is.non EB h,fun _ _ _ _ z=>z.elim,fun _ _ _ _ z=>z.elim,fun s v p e i f h=>q s v p e i f h]]) (fun fl s' hs=>?_) fun e s' hs=>hs
 have fin:∀{σ':St}{H':Hp}{v:V}{u:Value},Inv (JB CX0 P w K mg base N qual (Ac st) f cdv A outer s H E) [] σ' H' s'->BF v u->Q v H'->CE outer P w H s Q u s' :=
  fun {σ' H' v u} J rv q=>#[v,H',J.os,J.bare,J.base,J.hok,rv,q]
 cases fl with
 |ret u =>
  obtain⟨v,σ',H',J,rv,q⟩:=hs
  exact fin J rv q
 |next =>
  obtain⟨σ',H',J,q⟩:=hs
  exact fin (v:=V.non) (u:=Value.none) J rfl q
 |brk=>obtain⟨_,_,_,g⟩:=hs;exact False.elim g
 |cont=>obtain⟨_,_,_,g⟩:=hs;exact False.elim g
end
section
variable {X:Cx}{pos:Pos}{e:Expr}{te tb:TE3}
theorem SJ {outer:List Env}{P:Program}{w:World}{H:Hp}{s s':Shared}{Q Q':VK}{u:Value}(h:CE outer P w H s Q u s') (f:∀v H',Q v H'->Q' v H'):CE outer P w H s Q' u s' :=
 let #[v,H',a,b,c,d,r,q]:=h;#[v,H',a,b,c,d,r,f _ _ q]
def RH (i:Nat)(a:Addr)(dom:D->Prop)(p:D->Bool)(te:TE3):TE3:=fun τ R=>τ[i]? = some (some (.d (.ref a)))/\te τ fun s=>dd s fun x=>dom x/\R (.d (.bl (p x)))
theorem QI {i k:Nat}{x:Str}{np:Pos}{a:Addr}{dom:D->Prop}{p:D->Bool}(hL:NQ X.prog X.w X.K X.mg X.base k X.s₀ X.H₀ X.fs a dom p) (hr:Eh k X.A) (hv:PE X (.Name x np) (Dd i)) (he:PE3 X e te) (hex:X.ex=[]:=by rfl) (hl:X.lent=none:=by rfl)
 (hs:starEach [e] X.env=(false,eval e X.env)::starEach [] X.env:=by exact Ct rfl):PE3 X (.Call (.Name x np) [e] [] pos) (RH i a dom p te):=by
 refine#[fun pins s σ H Q I hh=>?_]
 obtain⟨B,z,τ,R,r,⟨hi,ht⟩,q⟩:=hh
 obtain⟨v,h1,h2⟩:=r.val i _ hi
 have ev:v=.ref a:=by
  have h2':Is X.K z v (.ref a):=h2
  cases h2';rfl
 subst ev
 obtain⟨o,uu,fd,ho,hfd⟩:=hL.obj
 refine wpAny_Call_Name_kw (thn (hv pins s σ H (fun v' H'=>v'=.ref a/\H'=H) I #[_,h1,rfl,rfl]) fun f s1 hh=>?_)
 obtain⟨v',H',I1,rv,e1,e2⟩:=hh
 subst e1;subst e2
 obtain rfl:f=Value.ref a:=rv
 have pa:wpAny (model X.prog X.w) X.A (spliced (backTo pos (starEach [e] X.env))) _ X.xe s1:=(Ak he.out AA hs) pos pins s1 σ H' (fun vs H1=>∃y z1 x,vs=[y]/\Ext #[H',z] #[H1,z1]/\Is X.K z1 y x/\dom x/\R (.d (.bl (p x)))) I1 #[B,z,τ,_,r,ht,fun s2 v2 q2 e2 i2 f2 h2=>by
  obtain⟨x,rfl,hx⟩:=C0 h2
  exact#[v2,q2.z,x,rfl,e2,i2,hx]]
 rw[hs] at pa ⊢
 refine W.callWith_of (P:=fun h=>∃ob,h.get? a=some ob/\ob.data=.func fd) rfl (fun h #[ob,g1,g2]=>#[.frame,.inl rfl,?_]) (Calls.evalArgs_plain (thn pa fun us s2 #[vs,H2,I2,rv2,y,z1,x,evs,e2,i2,dm,hR]=>?_))
 .obtain⟨oc,od,od2,osl⟩:=ob
  cases g2
  exact(W.Looks.ld (part:=none) g1).andThen .now
 subst evs
 have sm:AG X.H₀ H2:=(r.all hl).trans e2.hh
 obtain⟨u,rfl,ru⟩:∃u,us=[u]/\BF y u:=by
  cases rv2 with
  |cons a b=>cases b;exact#[_,rfl,a]
 refine#[#[o,(I2.hok a _ (sm _ _ ho)).1,hfd],wpAny_call (codeAny_mono (hL.run X.A X.stack s2 H2 y u x hr I2.env0 (fun b ob g1 g2 g3=>#[I2.base.keep b ob g1 g2 g3 (by rw[hex];simp),I2.base.free b ob g1 g2 (by rw[hex];simp)]) sm ru (Is.mono e2.sub i2) dm) fun r2 s3 hq=>?_)]
 cases r2 with
 |error e=>exact hq.elim
 |ok fl =>
  cases fl with
  |ret u2 =>
   refine I2.after (SJ hq fun v3 H3 h3=>?_)
   obtain⟨rfl,sm3⟩:=h3
   exact q (.d (.bl (p x))) _ #[H3,z1] (e2.trans (Ext.grow e2.sub sm3)) (.bl _) EB hR
  |next=>exact False.elim hq
  |brk=>exact False.elim hq
  |cont=>exact False.elim hq
def RN (sp:SpL)(U:Str->Prop)(idx:List Nat)(te tb:TE3):TE3:=fun τ R=>te τ fun s=>∃(dom:D->Prop)(p:D->Bool),(∀x,dom x->tb (some (.d x)::Ja τ idx) fun s=>s=.d (.bl (p x)))/\dd s fun d=>∀a,sp a dom p [.d d,.d (.ref a)] R U
theorem QC {k kb:Nat}{g x y:Str}{np lp:Pos}{ps:List Str}{sp:SpL}{c T:Addr}{params:Arguments}{body:Expr}{scope:Scope}{N:List Str}{idx:List Nat}(cal:Tq X.prog X.w X.K X.mg X.base k (kb+1) g ps sp) (hr:Eh k X.A) (hg:Gl X g)
 (ht:W.tabIn X.K y=some (c,T)) (hp:(recsOf X.prog).any (fun d=>d.name==y)=true) (hcode:X.env.code=.ref c) (O:Bo X x scope N idx) (he:PE3 X e te)
 (hb:∀cl nm a cdv A outer s H,Eh kb (A.deeper (W.envX nm scope s.heap.objs.size a cdv cl))->PE3 (Qm X N scope cl nm a cdv A outer s H) body tb)
 (hfn:∀y,X.fn y=true:=by intro _;rfl) (hdef:defaultsOf params X.env=([],[]):=by rfl) (hco:scope.isCoroutine=false:=by rfl) (hgen:scope.isGenerator=false:=by rfl)
 (hbind:∀(q:Str)(cl:List (Str×Addr))(pm cv ct u:Value),bindArgs (qCf "<lambda>" q params body scope cl pm cv ct) #[[u],[]]=pure [(x,u)]:=by intros;rfl)
 (hdb:(g==("__debug__":Str))=false:=by decide) (hs:starEach [e,.Lambda params body scope lp] X.env=(false,eval e X.env)::starEach [.Lambda params body scope lp] X.env:=by exact Ct rfl) :
 PE3 X (.Call (.Name g np) [e,.Lambda params body scope lp] [] pos) (RN sp NoU idx te tb):=by
 refine#[fun pins s σ H Q I hh=>?_]
 obtain⟨B,z,τ,R,r,ht1,q⟩:=hh
 obtain⟨f,fd,F,hm,hk,hbi⟩:=cal.ex
 obtain⟨cl,ecl,hcl,hcl2⟩:=G9 (scope:=scope) (env:=X.env) fun y hy hf=>I.ok.has y.1 (.inl (O.free y hy hf))
 refine wpAny_Call_Name_kw (Hs I hg hm ?_ hdb)
 refine W.callWith_K (h₀:=X.base) I.ok.mod.kin hk ?_ hs rfl
 rw[hs]
 refine Calls.spliced_cons (thn (he.out pins s σ H (fun v1 H1=>∃z1 d,Ext #[H,z] #[H1,z1]/\Is X.K z1 v1 d/\∃(dom:D->Prop)(p:D->Bool),(∀x,dom x->tb (some (.d x)::Ja τ idx) fun s=>s=.d (.bl (p x)))/\∀a,sp a dom p [.d d,.d (.ref a)] R NoU) I #[B,z,τ,_,r,ht1,fun s2 v2 q2 e2 i2 f2 h2=>?_]) fun u1 s1 #[v1,H1,I1,rv1,z1,d,e1,i1,dom,p,hdom,hsp]=>?_)
 .obtain⟨dom,p,hdom,h3⟩:=h2
  obtain⟨d,rfl,h4⟩:=C0 h3
  exact#[q2.z,d,e2,i2,dom,p,hdom,h4]
 have hs2:starEach [Expr.Lambda params body scope lp] X.env=(false,eval (.Lambda params body scope lp) X.env)::starEach [] X.env:=Ct rfl
 rw[hs2]
 refine Calls.spliced_cons (N8 I1 ht hp hcode hdef ecl fun a c' H2 s2 fo oc fs nm qual tq pm ctv I2 sm ha hfo hc hoc hfs=>?_)
 refine Calls.spliced_nil #[I2.kIn,?_]
 have e12:Ext #[H,z] #[H2,z1]:=e1.trans (Ext.grow e1.sub sm)
 have r2:Rep X B τ σ #[H2,z1]:=r.mono e12
 have hL:=R0 O hfn I2 hcl hcl2 ha hfo hc hoc hfs hco hgen hbind hb r2 hdom
 have i1':Is X.K z1 v1 d:=i1
 have hl:[u1,Value.ref a].length=ps.length:=F.len a dom p _ _ _ (hsp a)
 have rvs:Bt [v1,V.ref a] [u1,Value.ref a]:=.cons rv1 (.cons rfl .nil)
 refine wpAny_call (codeAny_mono (F.run X.A X.stack s2 H2 #[[u1,.ref a],[]] [u1,.ref a] [v1,.ref a] Q (fun _ _ _=>False) a dom p hr I2.env0 ?_ rvs hL #[z1,[.d d,.d (.ref a)],R,NoU,e12.sub,#[rfl,fun i v s h1 h2=>?_],hsp a,fun s v q3 e3 i3 f3 h3=>q s v q3 (e12.trans e3) i3 (JH e12 f3) h3,fun _ _ _ _ _ z=>z.elim]) fun rr s3 hq=>?_)
 .have:=hbi s2 [u1,.ref a] I2.kIn (by simpa using hl)
  simpa using this
 .match i,h1,h2 with
  |0,h1,h2=>cases h1;cases h2;exact#[i1',rfl]
  |1,h1,h2=>cases h1;cases h2;exact#[Is.ref a,rfl]
 cases rr with
 |error e=>exact(show False from hq).elim
 |ok fl =>
  cases fl with
  |ret u=>exact I2.after hq
  |next=>exact False.elim hq
  |brk=>exact False.elim hq
  |cont=>exact False.elim hq
end
theorem NI {K:W.Frag}{x:Str}{c T f:Addr}{oc:Value}{od:Option Addr}{fd:FuncData}{osl:Array (Option Value)}(ht:W.tabIn K x=some (c,T)) (hn:W.nsIn K mainGlobals x=some (some (.ref f))) (lk:K.lookup f=some #[oc,od,.func fd,osl]):fd.code=.ref c:=by
 unfold W.tabIn at ht
 rw[hn] at ht
 dsimp only at ht
 rw[lk] at ht
 dsimp only at ht
 split at ht
 .rename_i c2 hc
  split at ht
  .split at ht
   .cases ht;exact hc
   .cases ht
  .cases ht
 .cases ht
section
variable {P:Program}{w:World}{K:W.Frag}{mg:Str->Option Value}{base:Heap}
theorem VB {x qual:Str}{st:Stmt}{f c T:Addr}{fd:FuncData}{N ps:List Str}{k:Nat}{sp:Sp3}(ht:W.tabIn K x=some (c,T)) (hn:W.nsIn K mainGlobals x=some (some (.ref f))) (F:Fun K x qual st f fd) (Sc:Ae N ps (Ac st)) (len:∀ss R U,sp ss R U->ss.length=ps.length)
 (hbody:∀(cdv:Value)(A:Around)(outer:List Env)(s:Shared)(H:Hp)(E:XK)(ss:List S)(R:S->Prop)(U:Str->Prop),cdv=.ref c->Eh k (A.deeper (envOfC qual (Ac st) s.heap.objs.size f cdv))->sp ss R U ->
  OY (JB (CXU P w) P w K mg base N qual (Ac st) f cdv A outer s H E) U ->
  ∃t,CY (JB (CXU P w) P w K mg base N qual (Ac st) f cdv A outer s H E) (B4 st) t/\t { nx:=fun _=>R (.d .non),rt:=R } (DS N ss)):Az P w K mg base (CXU P w) (k+1) f fd ps (Ag K mg sp):=by
 obtain⟨oc,od,kV,doc,pm,an,cdv,ct,osl,rfl,lk,hcd⟩:=F.ex
 have ec:cdv=.ref c:=NI ht hn lk
 refine QU lk hcd Sc (fun vs H Q E hh=>by obtain⟨z,ss,R,U,hz,ha,h3,_⟩:=hh;exact ha.1.trans (len ss R U h3)) fun A outer s H vs Q E hr hh9=>?_
 obtain⟨z,ss,R,U,hz,ha,h3,q,qe⟩:=hh9
 obtain⟨t,ht,hq⟩:=hbody cdv A outer s H E ss R U ec hr h3 (MJ qe)
 exact#[_,ht.out,#[H,z],z,DS N ss,_,ED ha hz (AG.refl H),hq,#[fun τ σ p r h=>q (.d .non) _ p r.ext Is.non EB h,fun _ _ _ _ z=>z.elim,fun _ _ _ _ z=>z.elim,fun s v p e i f h=>q s v p e i f h]]
end
theorem GF {us:List Value}{n:Nat}(h:us.length=n+1):∃x r,us=x::r/\r.length=n:=by
 cases us with
 |nil=>cases h
 |cons x r=>exact#[x,r,rfl,Nat.succ.inj h]
theorem Ru {us:List Value}(h:us.length=1):∃x0,us=[x0]:=by
 obtain⟨x0,r0,e0,h0⟩:=GF h
 have e:=qA0 h0
 exact#[x0,by rw[e0,e]]
theorem Su {us:List Value}(h:us.length=2):∃x0 x1,us=[x0,x1]:=by
 obtain⟨x0,r0,e0,h0⟩:=GF h
 obtain⟨x1,r1,e1,h1⟩:=GF h0
 have e:=qA0 h1
 exact#[x0,x1,by rw[e0,e1,e]]
theorem RD {us:List Value}(h:us.length=3):∃x0 x1 x2,us=[x0,x1,x2]:=by
 obtain⟨x0,r0,e0,h0⟩:=GF h
 obtain⟨x1,r1,e1,h1⟩:=GF h0
 obtain⟨x2,r2,e2,h2⟩:=GF h1
 have e:=qA0 h2
 exact#[x0,x1,x2,by rw[e0,e1,e2,e]]
theorem Rj {us:List Value}(h:us.length=4):∃x0 x1 x2 x3,us=[x0,x1,x2,x3]:=by
 obtain⟨x0,r0,e0,h0⟩:=GF h
 obtain⟨x1,r1,e1,h1⟩:=GF h0
 obtain⟨x2,r2,e2,h2⟩:=GF h1
 obtain⟨x3,r3,e3,h3⟩:=GF h2
 have e:=qA0 h3
 exact#[x0,x1,x2,x3,by rw[e0,e1,e2,e3,e]]
open Classical in
theorem LG {P q:Program}{loose:List Str}{mean:ExcName->Option Value}{w:World}{K:W.Frag}{mg mb:Str->Option Value}{k:Nat}{fa a:Addr}{fd:FuncData}{x:Str}{s₁:Shared}{vs:List Value}{ns:List Int}
 (T:Top q loose mean mg mb s₁.heap) (hq:∀y:Str,(recsOf P).any (fun d=>d.name==y)=true->(recsOf q).any (fun d=>d.name==y)=true) (hnt:W.noTabs K=true) (KX:K.In s₁.heap) (hg:s₁.gens=(List.toArray []))
 (ha:s₁.heap.get? a=some { cls:=.type "list",data:=.seq vs.toArray }) (hi:IntsAre vs ns) (hl:ns.length<=63) (hr:Eh k callerA)
 (F:∀base:Heap,K.In base->base.Ns mainGlobals mg->∃mg',Az P w K mg base CX0 k fa fd [x] (Ag K mg' JW)) (hbind:∀(s:Shared)(u:Value),BindsTo s fd #[[u],[]] [(x,u)]) :
 codeAny (model P w) callerA (.call (.ref fa) #[[.ref a],[]]) (fun r s'=>r=.ok (.ret (.bool true))/\OldK s₁.heap s'.heap/\s'.os=s₁.os/\AllBare s'.gens) s₁:=by
 have rv:=E6 hi
 have lenV:=hi.length
 have sz:(63:Nat)<=sizeLine:=∅
 let IsT:Addr->Prop:=fun b=>∃y c,W.tabIn K y=some (c,b)/\(recsOf P).any (fun d=>d.name==y)=true
 have tabs:∀{y:Str}{c b:Addr},W.tabIn K y=some (c,b)->(recsOf P).any (fun d=>d.name==y)=true->W.CodeHd s₁.heap c b/\s₁.heap.get? b=some (W.tabObj (List.toArray [])):=fun {y c b} h1 h2=>by
  have h3:=hq y h2
  cases e:(recsOf q).find? (fun d=>d.name==y) with
  |some d=>exact W.tab_of T KX e h1
  |none =>
   obtain⟨d,hd,hn⟩:=List.any_eq_true.mp h3
   exact absurd hn (List.find?_eq_none.mp e d hd)
 have tabG:∀{b:Addr},IsT b->s₁.heap.get? b=some (W.tabObj (List.toArray [])):=fun#[_,_,h1,h2]=>(tabs h1 h2).2
 let H:Hp:=fun b=>if b=a/\K.lookup a=none then some (.frz { cls:=.type "list",data:=.seq vs.toArray } (.lst (ns.map V.int))) else if IsT b then some (.tbl (List.toArray [])) else none
 have Ha:K.lookup a=none->H a=some (.frz { cls:=.type "list",data:=.seq vs.toArray } (.lst (ns.map V.int))):=fun h=>if_pos #[rfl,h]
 have neT:∀{b:Addr},IsT b->b≠a:=fun t z=>by
  have:=tabG t
  rw[z,ha] at this
  cases this
 have Ht:∀{b:Addr},IsT b->H b=some (.tbl (List.toArray [])):=fun {b} t=>(if_neg (fun z=>neT t z.1)).trans (if_pos t)
 have Hn:∀{b:Addr},¬(b=a/\K.lookup a=none)->¬IsT b->H b=none:=fun {b} h1 h2=>(if_neg h1).trans (if_neg h2)
 have three:∀b,H b=none\/(b=a/\K.lookup a=none)\/IsT b:=fun b=>by
  by_cases h1:b=a/\K.lookup a=none
  .exact .inr (.inl h1)
  .by_cases h2:IsT b
   .exact .inr (.inr h2)
   .exact .inl (Hn h1 h2)
 have free_of:∀{b:Addr}{o:Obj},s₁.heap.get? b=some o->(∀xs n,o.data≠.seq xs n)->o≠W.tabObj (List.toArray [])->H b=none:=fun {b o} e h1 h2=>by
  refine Hn (fun z=>?_) (fun z=>?_)
  .rw[z.1,ha] at e
   cases e
   exact h1 _ _ rfl
  .have:=tabG z
   rw[e] at this
   exact h2 (qAj this)
 have hok:HOk P w H s₁.heap:=fun b u e=>by
  rcases three b with z|z|z
  .rw[z] at e;cases e
  .obtain⟨rfl,z⟩:=z
   rw[Ha z] at e
   cases e
   exact#[ha,by rw[qAa];exact qAG hl sz,vs,_,rv,ha]
  .rw[Ht z] at e
   cases e
   exact#[(List.toArray []),tabG z,trivial,fun pos cv z=>by cases z]
 have base_of:∀{b:Addr}{o:Obj},s₁.heap.get? b=some o->H b=none->(Np s₁.heap H).get? b=some o:=fun e n=>NP e n
 have nsK:∀{b:Addr}{m:Str->Option Value},s₁.heap.Ns b m->(Np s₁.heap H).Ns b m:=fun {b m} #[o,es,ep,e,d,r]=>#[o,es,ep,base_of e (free_of e (fun xs n z=>by rw[d] at z;cases z) (fun z=>by rw[z] at d;cases d)),d,r]
 have hKb:K.In (Np s₁.heap H):=fun b o e=>base_of (KX b o e) (Hn (fun z=>by rw[z.1,z.2] at e;cases e) (fun z=>by
  have h1:=tabG z
  rw[KX b o e] at h1
  have h2:=qAr.mp hnt (b,o) (W.mem_of_lookupK e)
  rw[qAj h1] at h2
  exact absurd (show false=true from h2) qAm))
 have hM:Mod K mg (Np s₁.heap H):=#[hKb,nsK T.g,#[mb,nsK T.b,T.builtins],let #[mc,h1,h2]:=T.nolimit;#[mc,nsK h1,h2]]
 have hTB:TB P K mg (Np s₁.heap H) H:=by
  refine#[?_,fun y c b h1 h2=>#[?_,(List.toArray []),Ht #[y,c,h1,h2]]]
  .obtain⟨bm,ob,b1,b2,b3,b4,b5,b6⟩:=T.bmain
   exact#[bm,ob,b1,b2,base_of b3 (free_of b3 (fun xs n z=>by rw[b6] at z;cases z) (fun z=>by rw[z] at b4;cases b4)),b4,b5,b6]
  .obtain⟨o,fs,file,tf,flags,tg,inF,text,tt,g1,g2,g3,g4⟩:=(tabs h1 h2).1
   exact#[o,fs,file,tf,flags,tg,inF,text,tt,base_of g1 (free_of g1 (fun xs n z=>by rw[g3] at z;cases z) (fun z=>by rw[z] at g2;cases g2)),g2,g3,g4]
 have e0:QA P w K mg (Np s₁.heap H) callerA [] s₁ H:=#[rfl,hM,fun b o e=>Qt e,Nat.le_of_eq (LZ _ _),trivial,fun b hb=>absurd (show b∈([]:List Addr) from hb) (by simp),hok,.of_eq hg,hTB]
 have hS:SqL K H a (ns.map V.int):=by
  cases hk:K.lookup a with
  |some o =>
   have e:=KX a o hk
   rw[ha] at e
   cases e
   exact .inr #[_,vs.toArray,_,hk,rfl,rfl,rfl,by rw[qAs,lenV];exact qAG hl sz,by simpa using rv]
  |none=>exact .inl (.inr #[_,Ha hk])
 obtain⟨mg',FF⟩:=F _ hKb (nsK T.g)
 refine codeAny_mono (FF.run callerA [] s₁ H #[[.ref a],[]] [.ref a] [.ref a] (fun v _=>v=.bl true) (fun _ _ _=>False) hr e0 (hbind s₁ (.ref a)) (.cons rfl .nil) #[H,[.r (ns.map D.int)],fun s=>s=.d (.bl true),NoU,AG.refl H,#[rfl,fun i v s h1 h2=>?_],#[ns,rfl,hl,rfl],fun s v q _ i _ e=>?_,fun _ _ _ _ _ z=>z.elim]) fun r s' h=>?_
 .cases i with
  |zero =>
   cases h1
   cases h2
   exact#[#[a,_,rfl,hS,HF ns],rfl]
  |succ i=>cases h1
 .subst e
  exact Is.bl_inv i
 cases r with
 |error e=>exact(show False from h).elim
 |ok fl =>
  cases fl with
  |next=>exact False.elim h
  |brk=>exact False.elim h
  |cont=>exact False.elim h
  |ret u =>
   obtain⟨v,H',os,bare,un,hok',r',g⟩:=h
   have g':v=.bl true:=g
   subst g'
   obtain rfl:u=Value.bool true:=r'
   refine#[rfl,#[fun b o e=>?_,fun b o e=>un.there b o e (by simp)],os,bare]
   rcases three b with z|z|z
   .exact .inl (un.keep b o e z (by intro z;exact absurd (show b∈([]:List Addr) from z) (by simp)) (by simp))
   .obtain⟨rfl,z⟩:=z
    obtain⟨e2,_⟩:=hok' b _ (un.frzs b _ _ (Ha z))
    rw[ha] at e
    cases e
    exact .inl e2
   .have e1:=tabG z
    obtain⟨y,c,h1,h2⟩:=id z
    rw[e] at e1
    cases e1
    obtain⟨more,e3⟩:=un.tbls b _ (Ht z)
    obtain⟨tab,e4,_⟩:=(show Jp H' s'.heap b from hok' b _ e3)
    exact .inr (.inl #[((tabs h1 h2).1.tab (tabs h1 h2).2).isCodeTable,rfl,(List.toArray []),tab,rfl,by rw[e4];simp])
theorem walk3 {l:W.OpenLaw}{k:Nat}{q:Program}{loose:List Str}{XP:(Str->Option Value)->Heap->Prop}{YP:World->Heap->Prop}{d:DefRec}{K:Params->W.Frag}{x:Str}(hn:l.most=some 63) (hdf:d.params.defaults=[]) (hr:Eh k callerA)
 (hq:∀y:Str,(recsOf l.prog).any (fun d=>d.name==y)=true->(recsOf q).any (fun d=>d.name==y)=true)
 (hY:∀(w:World)(h:Heap),YP w h->(K w.params).In h) (hnt:∀w:World,W.noTabs (K w.params)=true)
 (F:∀(w:World)(mg:Str->Option Value)(fa:Addr)(h:Heap),(K w.params).In h->h.Ns mainGlobals mg->mg d.name=some (.ref fa) ->
  ∃fd:FuncData,(∀(s:Shared)(u:Value),BindsTo s fd #[[u],[]] [(x,u)])/\∀base:Heap,(K w.params).In base->base.Ns mainGlobals mg->∃mg',Az l.prog w (K w.params) mg base CX0 k fa fd [x] (Ag (K w.params) mg' JW)) :
 W.WalkO q loose XP YP l.row.toRowW d [] (fun f vs=>PySem.call f vs):=by
 refine Att.attach_call hn hdf fun w s₀ s₁ mg mb fa o pm cd doc a vs ns G Y ho hd hcd hmg hobj hints hlen hg=>?_
 have KX:=hY w _ Y
 obtain⟨fd,hb,hF⟩:=F w mg fa _ KX G.T.g hmg
 exact LG G.T hq (hnt w) KX hg hobj hints hlen hr hF hb
open PySem L2
def S.wk:S->S
 |.d (.lst xs)=>.r xs
 |s=>s
def S.nl:S->Bool
 |.d (.lst _)=>false
 |_=>true
theorem RQ:∀s:S,s.wk.own=s.own
 |.d (.lst _)=>rfl
 |.d .non|.d (.bl _)|.d (.int _)|.d (.str _)|.d (.ty _)|.d (.ref _)|.d (.tup _)|.l _|.r _=>rfl
theorem R5:∀s:S,s.wk.nl=true
 |.d (.lst _)=>rfl
 |.d .non|.d (.bl _)|.d (.int _)|.d (.str _)|.d (.ty _)|.d (.ref _)|.d (.tup _)|.l _|.r _=>rfl
theorem L6 {y:S}{l:List D}(h:y=.r l\/y=.d (.lst l)) (n:y.nl=true):y=.r l:=by
 rcases h with rfl|rfl
 .rfl
 .cases n
theorem TV {K:W.Frag}{p:HZ}{v:V}(hz:AG p.z p.h):∀s:S,IsS K p v s->IsS K p v s.wk
 |.d (.lst _),h=>by
  have h:Is K p.z v (.lst _):=h
  cases h with
  |lst e hl r=>exact#[_,_,rfl,.inl (.inl (hz _ _ e)),hl,r]
 |.d .non,h|.d (.bl _),h|.d (.int _),h|.d (.str _),h|.d (.ty _),h|.d (.ref _),h|.d (.tup _),h|.l _,h|.r _,h=>h
def NL (sp:Sp3):Sp3:=fun ss R U=>sp ss R U/\∀s∈ss,s.nl=true
theorem Ng {K:W.Frag}{mg:Str->Option Value}{sp:Sp3}(hs:∀ss R U,sp ss R U->sp (ss.map S.wk) R U){vs:List V}{H:Hp}{Q:VK}{E:XK}(h:Ag K mg sp vs H Q E):Ag K mg (NL sp) vs H Q E:=by
 obtain⟨z,ss,R,U,hz,⟨hl,ha⟩,h3,q⟩:=h
 refine#[z,ss.map S.wk,R,U,hz,#[by rw[qAa];exact hl,fun i v s hv h=>?_],#[hs _ _ _ h3,fun s h=>?_],q]
 .rw[qAh] at h
  obtain⟨t,e,rfl⟩:=Option.map_eq_some_iff.mp h
  have:=ha i v t hv e
  exact#[TV hz _ this.1,(RQ t).trans this.2]
 .obtain⟨t,_,rfl⟩:=qAL.mp h
  exact R5 t
section
variable {P:Program}{w:World}{K:W.Frag}{mg:Str->Option Value}{base:Heap}{f:Addr}{fd:FuncData}{ps:List Str}{k:Nat}
theorem fnW {CX:CXT}{sp:Sp3}(hs:∀ss R U,sp ss R U->sp (ss.map S.wk) R U) (F:Az P w K mg base CX k f fd ps (Ag K mg (NL sp))):Az P w K mg base CX k f fd ps (Ag K mg sp):=F.imp fun _ _ _ _=>Ng hs
theorem Vo {kl:Nat}{sp:SpL}(hs:∀a d p ss R U,sp a d p ss R U->sp a d p (ss.map S.wk) R U) (F:K4 P w K mg base k kl f fd ps (fun a d p=>NL (sp a d p))):K4 P w K mg base k kl f fd ps sp :=
 #[fun a d p ss R U h=>by have:=F.len a d p _ R U #[hs _ _ _ _ _ _ h,fun s h=>by obtain⟨t,_,rfl⟩:=qAL.mp h;exact R5 t];rw[qAa] at this;exact this,
  fun A outer s H args us vs Q E a d p hr e0 hb rv hL hh=>F.run A outer s H args us vs Q E a d p hr e0 hb rv hL (Ng (hs a d p) hh)]
end
section
variable {X:Cx}{e a b:Expr}{es:List Expr}{te ta tb:TE3}{tr:TA3}{pos:Pos}
theorem vN (i:Nat){x:Str}(hN:X.N[i]? = some x:=by rfl) (hv:Vis X.env.scope x:=by first|exact Or.inl rfl|exact Or.inr (Or.inl rfl)|exact Or.inr (Or.inr rfl)) (hd:(x==("__debug__":Str))=false:=by decide) (hcd:(x==("__classdict__":Str))=false:=by decide):PE3 X (.Name x pos) (SY i):=Uv (pv i hN hv hd hcd)
theorem vK (i:Nat){x:Str}{n:Int}{j:Nat}{p q:Pos}(hN:X.N[i]? = some x:=by rfl) (hv:Vis X.env.scope x:=by first|exact Or.inl rfl|exact Or.inr (Or.inl rfl)|exact Or.inr (Or.inr rfl)) (hd:(x==("__debug__":Str))=false:=by decide) (hcd:(x==("__classdict__":Str))=false:=by decide):PE3 X (.Subscript (.Name x p) (.Constant (.int n) j q) pos) (vIx (SY i) (vC (.int n))):=AF (vN i hN hv hd hcd) Ad
theorem a1 (ha:PE3 X e te)(hs:starEach [e] X.env=(false,eval e X.env)::starEach [] X.env:=by exact Ct rfl):PA3 X [e] (Mt te S6):=Bc ha FP hs
theorem a2 (ha:PE3 X a ta)(hb:PE3 X b tb)(h1:starEach [a,b] X.env=(false,eval a X.env)::starEach [b] X.env:=by exact Ct rfl)(h2:starEach [b] X.env=(false,eval b X.env)::starEach [] X.env:=by exact Ct rfl):PA3 X [a,b] (Mt ta (Mt tb S6)):=Bc ha (Bc hb FP h2) h1
theorem HQ {k k':Nat}{x:Str}{ps:List Str}{sp:Sp3}{p:Pos}{U:Str->Prop}(xo:OY X U) (hr:Eh k' X.A) (c:Cal X.prog X.w X.K X.mg X.base (CXU X.prog X.w) k x ps sp) (ha:PA3 X (e::es) tr) (hk:k<=k':=by decide) (hg:Gl X x:=by exact rfl)
 (hdb:(x==("__debug__":Str))=false:=by decide) (he:starEach (e::es) X.env=(false,eval e X.env)::starEach es X.env:=by exact Ct rfl) (hpl:(backTo pos (starEach es X.env)).any (·.1)=false:=by exact DM rfl) (hl:X.lent=none\/∀y,¬U y:=by first|exact .inl rfl|exact .inr (fun _ z=>z)) :
 PE3 X (.Call (.Name x p) (e::es) [] pos) (LD U sp tr):=Nh xo c (hr.mono hk) hg ha hdb he hpl hl
theorem AK {k k':Nat}{x:Str}{ps:List Str}{sp:Sp3}{p:Pos}(hr:Eh k' X.A) (c:Cal X.prog X.w X.K X.mg X.base (CXU X.prog X.w) k x ps sp) (ha:PA3 X (e::es) tr) (hk:k<=k':=by decide) (hg:Gl X x:=by exact rfl)
 (hdb:(x==("__debug__":Str))=false:=by decide) (he:starEach (e::es) X.env=(false,eval e X.env)::starEach es X.env:=by exact Ct rfl) (hpl:(backTo pos (starEach es X.env)).any (·.1)=false:=by exact DM rfl) :
 PE3 X (.Call (.Name x p) (e::es) [] pos) (LD NoU sp tr):=Nh Mu c (hr.mono hk) hg ha hdb he hpl (.inr fun _ z=>z)
theorem BA {p:Pos}(hm:X.mg "len"=none) (ha:PE3 X e te) (hg:Gl X "len":=by exact rfl) (he:starEach [e] X.env=(false,eval e X.env)::starEach [] X.env:=by exact Ct rfl) (hpl:(backTo pos (starEach [] X.env)).any (·.1)=false:=by exact DM rfl) :
 PE3 X (.Call (.Name "len" p) [e] [] pos) (vCB TU (Mt te S6)):=HB TR hg hm PySem.boot_len (Bc ha FP he) ∅ ∅ he hpl
theorem AU (i:Nat){x:Str}{pos':Pos}{ps:List Str}{sc:Scope}(O:Ae X.N ps sc) (he:PE3 X e te) (hi:X.N[i]? = some x:=by rfl) (hx:Loc X.env.scope x:=by first|exact Or.inl rfl|exact Or.inr rfl) (hs:swapsWith e (some (.Name x pos')) pos.line X.env=pure false:=by rfl) (hf:X.fn x=true\/X.env.scope.names.lookup x=some .local:=by first|exact .inl rfl|exact .inr rfl|assumption) (hp:Dz X i:=by first|exact CZ rfl|exact pin_ne rfl ∅|assumption) :
 PS3 X (.Assign [.Name x pos'] e pos) (S9 i te):=T3 O.nd hi hx he hs hf hp
theorem BC (he:PE3 X e te):CY X [.Return (some e) pos] (UJ te):=Ai (Ue he)
theorem Cy {op:CmpOp}{r3:R3}(ho:F6 X (compareOp op) r3) (ha:PE3 X a ta) (hb:PE3 X b tb) (hm:behindInMarks op b=false:=by exact Ej _):PT3 X (.Compare a [op] [b] pos) (PB (vOp r3 ta tb)):=TK ho ha hb hm
end
theorem scN {N P:List Str}{sc:Scope}(h1:(sc.kind=.function/\sc.isCoroutine=false/\sc.isGenerator=false):=by exact#[rfl,rfl,rfl]) (h2:N.take P.length=P:=by rfl) (h3:N.Nodup/\(∀x∈P,sc.names.lookup x=some .local\/sc.names.lookup x=some .cell)/\∀y∈sc.names,y.2≠.free:=by decide +kernel):Ae N P sc:=#[h1.1,h1.2.1,h1.2.2,h3.1,h2,h3.2.1,h3.2.2]
def Bnd (st:Stmt)(n:Str)(ps:List Str):Prop:=∀(kV doc pm:Value)(an:Option Addr)(cdv ct:Value)(us:List Value),us.length=ps.length->bindArgs (W.fnOf n n (Er st) (B4 st) (Ac st) .none kV doc pm an cdv ct) #[us,[]]=pure (ps.zip us)
section
variable {P:Program}{w:World}{K:W.Frag}{mg:Str->Option Value}{base h:Heap}
theorem mkC (X:K.In h)(G:h.Ns mainGlobals mg){n:Str}{st:Stmt}(r:Rw K n st){k:Nat}{ps:List Str}{sp:Sp3}(ok:∀{f:Addr}{fd:FuncData},Fun K n n st f fd->rA K n f->Az P w K mg base (CXU P w) k f fd ps (Ag K mg sp))
 (hb:Bnd st n ps:=by(intro _ _ _ _ _ _ us hl;first|(obtain⟨x0,rfl⟩:=Ru hl;rfl)|(obtain⟨x0,x1,rfl⟩:=Su hl;rfl)|(obtain⟨x0,x1,x2,rfl⟩:=RD hl;rfl)|(obtain⟨x0,x1,x2,x3,rfl⟩:=Rj hl;rfl))):Cal P w K mg base (CXU P w) k n ps sp:=by
 obtain⟨a,l,c,k⟩:=r
 have F:=LM (st:=st) l c k
 exact#[#[_,_,ok F a,qBw X G a,k,F.binds hb]]
theorem mkL (X:K.In h)(G:h.Ns mainGlobals mg){n:Str}{st:Stmt}(r:Rw K n st){k kl:Nat}{ps:List Str}{sp:SpL}(ok:∀{f:Addr}{fd:FuncData},Fun K n n st f fd->rA K n f->K4 P w K mg base k kl f fd ps sp)
 (hb:Bnd st n ps:=by(intro _ _ _ _ _ _ us hl;first|(obtain⟨x0,rfl⟩:=Ru hl;rfl)|(obtain⟨x0,x1,rfl⟩:=Su hl;rfl)|(obtain⟨x0,x1,x2,rfl⟩:=RD hl;rfl)|(obtain⟨x0,x1,x2,x3,rfl⟩:=Rj hl;rfl))):Tq P w K mg base k kl n ps sp:=by
 obtain⟨a,l,c,k⟩:=r
 have F:=LM (st:=st) l c k
 exact#[#[_,_,ok F a,qBw X G a,k,F.binds hb]]
end
section
variable {X:Cx}{e a b:Expr}{te ta tb:TE3}{pos:Pos}
def UR (i:Nat)(te:TE3):TS3:=fun D3 τ=>match τ[i]? with
 |some (some (S.d (D.int n)))=>te τ fun s=>dd s fun d=>match d with
  |.int j=>D3.nx (τ.set i (some (.d (.int (n+j)))))
  |_=>False
 |_=>False
theorem OT {i:Nat}{x:Str}{px:Pos}(hN:X.N.Nodup) (hi:X.N[i]? = some x) (hx:Loc X.env.scope x) (he:PE3 X e te) (hf:X.fn x=true\/X.env.scope.names.lookup x=some .local:=by first|exact .inl rfl|exact .inr rfl|assumption) (hp:Dz X i:=by first|exact CZ rfl|exact pin_ne rfl ∅|assumption) :
 PS3 X (.AugAssign (.Name x px) .Add e pos) (UR i te):=#[BK (R8 hN hi hx he.out SQ hf) fun D2 σ H hh=>by
 obtain⟨B,z,τ,D3,r,ht,c⟩:=hh
 unfold UR at ht
 split at ht
 .rename_i n hs
  obtain⟨v,h1,h2⟩:=r.val i _ hs
  have ev:v=.int n:=Is.int_inv h2
  subst ev
  refine#[.int n,h1,B,_,τ,_,r,ht,fun s v q1 e1 i1 f1 h3=>?_]
  obtain⟨d,rfl,h4⟩:=C0 h3
  split at h4
  .rename_i j
   have ev:v=.int j:=Is.int_inv i1
   subst ev
   refine#[n,j,rfl,rfl,?_]
   exact c.nx _ _ _ ((r.mono e1).setd (.int (n+j)) hp) h4
  .exact h4.elim
 .exact ht.elim]
def Vd (r3:R3)(ta tb:TE3):TE3:=fun τ R=>ta τ fun x=>tb τ fun y=>dd x.arg fun dx=>dd y.arg fun dy=>r3 dx dy fun d=>R (.d d)
theorem TH {op:Operator}{r3:R3}(ho:F6 X (binaryOp op) r3) (ha:PE3 X a ta) (hb:PE3 X b tb):PE3 X (.BinOp a op b pos) (Vd r3 ta tb):=#[Br (Qv ho ha.out hb.out) fun σ H Q hh=>by
 obtain⟨B,z,τ,R,r,ht,q⟩:=hh
 refine#[B,z,τ,_,r,ht,fun s v q1 e1 i1 f1 h1=>?_]
 obtain⟨z1,e1',i1'⟩:=DG e1 i1 f1
 refine#[B,z1,τ,_,r.mono e1',h1,fun s2 v2 q2 e2 i2 f2 h2=>?_]
 obtain⟨z2,e2',i2'⟩:=DG e2 i2 f2
 obtain⟨dx,ex,h2⟩:=C0 h2
 obtain⟨dy,ey,h2⟩:=C0 h2
 rw[ex] at i1'
 rw[ey] at i2'
 refine#[z2,dx,dy,_,e2'.sub,(show Is X.K z1 v dx from i1').mono e2'.zz,i2',h2,fun d w q3 e3 i3 h3=>?_]
 exact q (.d d) w q3 (e1'.trans (e2'.trans e3)) i3 EB h3]
end
def Ite (K:W.Frag)(a:Addr):It :=
 #[fun i H=>∃xs x,SqL K H a xs/\xs[i]? = some x,fun i H x H'=>∃p y,H p=none/\x=.ref p/\(∀xs,SqL K H a xs->xs[i]? = some y)/\H'=upd H p (.tup [.int i,y]),fun i H=>∃xs,SqL K H a xs/\xs.length<=i]
theorem LK {P:Program}{w:World}{K:W.Frag}{elts:List Expr}{x1:Nat}{tpos:Pos}(a e it:Addr) (hne:e≠it):Qe P w K (.Tuple elts x1 tpos) (Ite K a) [e,it] e (fun i h=>(∃old,IsEnum h e it ((i:Nat):Int) old)/\h.IsListIter it a i) where
 mem:=by simp
 obj:=fun i h st b hb=>by
  obtain⟨⟨old,he⟩,hi⟩:=st
  rcases qAk.mp hb with rfl|hb
  .exact#[_,he,fun v z=>by cases z]
  .have:b=it:=by simpa using hb
   subst this
   obtain⟨o,e1,c,d⟩:=hi
   exact#[o,e1,fun v z=>by rw[d] at z;cases z]
 keep:=fun i h h' st k=>#[let #[old,he]:=st.1;#[old,k e (by simp) _ he],st.2.at fun o e1=>k it (by simp) o e1]
 item:=by
  intro X hP hw hK hc i pins s σ H E I hf st hg
  subst hP hw hK
  obtain⟨xs,x,hq,hx⟩:=hg
  obtain⟨its,rv,p,hz⟩:=I.list hq
  obtain⟨u,hu,ru⟩:=rv.get hx
  obtain⟨⟨old,he⟩,hi⟩:=st
  obtain⟨f0,f1,f2,f3,f4,f5⟩:=hf e (by simp)
  obtain⟨g0,g1,g2,g3,g4,g5⟩:=hf it (by simp)
  refine wpAny_pyNext_enum_item he hi p.isList (x:=u) (by simpa using hu) hne fun h1 heo hit1 ht1 hz1 hk1=>#[_,rfl,wpAny_letOwnedTupleGo_enum (s:={ s with heap:=h1,toks:=s.toks+1 }) heo fun h2 he2 hs2=>?_]
  have hs2':Heap.SameBut e h1 h2:=hs2
  have el:e<s.heap.objs.size:=qAi he
  have sz:s.heap.objs.size≠e:=qBr el
  have hn:H s.heap.objs.size=none:=I.hok.fresh (qAd _)
  have old2:∀b o,b≠e->b≠it->s.heap.get? b=some o->h2.get? b=some o:=fun b o n1 n2 z=>(hs2'.2 b n1).trans (hk1 b o n1 n2 z)
  have tup2:h2.get? s.heap.objs.size=some { cls:=.type "tuple",data:=.seq (List.toArray [.int i s.toks,u]) }:=(hs2'.2 _ sz).trans ht1
  have trk:∀{b:Addr}{o:HO},H b=some o->b≠e/\b≠it:=fun {b o} z=>#[(fun y=>by rw[y,f0] at z;cases z),(fun y=>by rw[y,g0] at z;cases z)]
  have hok2:HOk X.prog X.w (upd H s.heap.objs.size (.tup [.int i,x])) h2:=fun b o z=>by
   by_cases hb:b=s.heap.objs.size
   .subst hb
    rw[Aj] at z
    cases z
    exact#[by show 2<=sizeLine;decide,[.int i s.toks,u],.cons #[_,rfl] (.cons ru .nil),#[_,tup2,rfl,_,rfl]]
   .rw[Af hb] at z
    refine(I.hok b o z).stay (hf:=fun c w1 w2 y=>by rw[Af (As y hn)];exact y) (fun c v hc' y=>?_) (fun c y=>by rw[Af (As y hn)];exact y) fun c ys y=>by rw[Af (As y hn)];exact y
    have t:c≠e/\c≠it:=by
     rcases hc' with rfl|hc'
     .exact trk z
     .exact trk hc'
    exact old2 c v t.1 t.2 y
  have I2:Inv X pins σ (upd H s.heap.objs.size (.tup [.int i,x])) { s with heap:=h2,toks:=s.toks+1 }:=by
   refine I.step (g':=s.gens) (d':=s.drawn) (ch:=[e,it]) (fun b hb=>?_) (fun b o _ _ hb z _=>old2 b o (fun y=>hb (by simp[y])) (fun y=>hb (by simp[y])) z) (fun b o _ _ hb z _=>#[o.slots,old2 b o (fun y=>hb (by simp[y])) (fun y=>hb (by simp[y])) z])
    (fun b o _ z n=>by rw[Af (qAF (qAi z))];exact n) (fun b o hb z=>#[o,old2 b o (fun y=>hb (by simp[y])) (fun y=>hb (by simp[y])) z])
    (fun b ys y=>by rw[Af (As y hn)];exact y) (fun b o ys y=>by rw[Af (As y hn)];exact y) (fun b ps y=>#[(List.toArray []),by rw[Af (As y hn),y];simp]) (fun m hm=>?_) hok2 I.bare
   .rcases qAk.mp hb with rfl|hb
    .exact#[f3,f1,f4,f5]
    .have:b=it:=by simpa using hb
     subst this
     exact#[g3,g1,g4,g5]
   .obtain⟨o,es,ep,ho,r⟩:=hm
    exact#[o,es,ep,old2 _ o (Ne.symm f1) (Ne.symm g1) ho,r]
  refine#[.ref s.heap.objs.size,_,I2,rfl,#[_,x,hn,rfl,fun ys hy=>by rw[I.list_inj hy hq];exact hx,rfl],#[#[u,?_],hit1.extBut hs2'.extBut (Ne.symm hne)],fun b hb=>?_]
  .have:((i+1:Nat):Int)=(i:Int)+1:=()
   rw[this]
   exact he2
  .rcases qAk.mp hb with rfl|hb
   .rw[Af (Ne.symm sz)];exact f0
   .have:b=it:=by simpa using hb
    subst this
    obtain⟨o,e1,_⟩:=hi
    rw[Af (qAF (qAi e1))]
    exact g0
 done:=by
  intro X hP hw hK hc i pins s σ H E I hf st hg
  subst hP hw hK
  obtain⟨xs,hq,hx⟩:=hg
  obtain⟨its,rv,p,hz⟩:=I.list hq
  obtain⟨⟨old,he⟩,hi⟩:=st
  obtain⟨g0,g1,g2,g3,g4,g5⟩:=hf it (by simp)
  refine wpAny_pyNext_enum_end (I.ok.hd hc) he hi p.isList (by rw[qB4];rw[qAM,<-rv.length];exact hx) fun h' hx'=>#[rfl,?_]
  exact I.turned (t':=s.toks) (fun b o hb z=>hx' b o hb z) g0 g1 g3 g4 g5
 self:=fun A i s Q E st h=>by
  obtain⟨⟨old,he⟩,_⟩:=st
  exact wpAny_pyIter_enum he h
section
variable {X:Cx}{pos:Pos}
def QX (K:W.Frag)(tl:TE):TI:=fun σ H R=>tl σ H fun x H1=>∃a,x=.ref a/\(∃xs,SqL K H1 a xs)/\R (Ite K a) H1
theorem Pm {elts:List Expr}{x1:Nat}{tpos p:Pos}{l:Expr}{tl:TE}(hg:Gl X "enumerate") (hm:X.mg "enumerate"=none) (hl:PE X l tl) (hs:starEach [l] X.env=[(false,eval l X.env)]:=by rfl):PI X (.Tuple elts x1 tpos) (.Call (.Name "enumerate" p) [l] [] pos) (QX X.K tl):=by
 intro pins s σ H R I h
 refine Call_ (FG I hg hm PyProof.Rows.boot_enumerate (qA9 ?_ hs rfl))
 rw[hs]
 refine Calls.spliced_cons (thn (hl pins s σ H _ I h) fun v s1 #[x,H1,I1,r1,q1]=>Calls.spliced_nil ?_)
 obtain⟨a,e,⟨xs,hq⟩,q⟩:=q1
 subst e
 cases r1
 obtain⟨its,rv,pl,hz0⟩:=I1.list hq
 refine call_enumerate_list pl.isList fun h' he hit hz old=>?_
 have I2:Inv X pins σ H1 { s1 with heap:=h' }:=I1.kept (t':=s1.toks) old
 refine wpAny_pyIter_enum (s:={ s1 with heap:=h' }) he ?_
 refine#[s1.heap.objs.size+1,[s1.heap.objs.size+1,s1.heap.objs.size],_,_,H1,rfl,I2,LK a (s1.heap.objs.size+1) s1.heap.objs.size (Nat.succ_ne_self _),#[#[_,he],hit],fun b hb=>?_,q]
 rcases qAk.mp hb with rfl|hb
 .exact I1.fpOk (qBJ _) (I1.hok.fresh (qBJ _))
 .have:b=s1.heap.objs.size:=by simpa using hb
  subst this
  exact I1.fpOk (qAd _) (I1.hok.fresh (qAd _))
def MV (i1 i2:Nat)(xs:List D)(tb:TS3)(D3:HG)(τ0:Tau):Prop:=∃I:Nat->Tau->Prop,I 0 τ0 /\
 (∀n τ x,xs[n]? = some x->I n τ->tb { D3 with nx:=I (n+1),ct:=I (n+1),bk:=D3.nx } ((τ.set i1 (some (.d (.int n)))).set i2 (some (.d x))))/\∀τ,I xs.length τ->D3.nx τ
def SE (j i1 i2:Nat)(tb:TS3):TS3:=fun D3 τ=>match τ[j]? with
 |some (some (.l xs))=>MV i1 i2 xs tb D3 (τ.set j (some (.r xs)))
 |some (some (.r xs))=>MV i1 i2 xs tb D3 (τ.set j (some (.r xs)))
 |_=>False
theorem Rp {j i1 i2:Nat}{x1 x2 y:Str}{p1 p2 pt py pn pc:Pos}{kt:Nat}{body:List Stmt}{tb:TS3}
 (h:PS X (.For (.Tuple [.Name x1 p1,.Name x2 p2] kt pt) (.Call (.Name "enumerate" pn) [.Name y py] [] pc) body [] pos) (NG (QX X.K (Dd j)) (S4 X.K 2 (Jj (CC i1) (Jj (CC i2) SX))) (FS X tb))) (hp1:Dz X i1:=by first|exact CZ rfl|exact pin_ne rfl ∅|assumption) (hp2:Dz X i2:=by first|exact CZ rfl|exact pin_ne rfl ∅|assumption) :
 PS3 X (.For (.Tuple [.Name x1 p1,.Name x2 p2] kt pt) (.Call (.Name "enumerate" pn) [.Name y py] [] pc) body [] pos) (SE j i1 i2 tb):=#[BK h fun D2 σ H hh=>by
 obtain⟨B,z,τ,D3,r,ht,c⟩:=hh
 have lists:∀(s:S)(xs:List D),τ[j]? = some (some s)->s.share=.r xs->MV i1 i2 xs tb D3 (τ.set j (some (.r xs)))->NG (QX X.K (Dd j)) (S4 X.K 2 (Jj (CC i1) (Jj (CC i2) SX))) (FS X tb) D2 σ H:=fun s xs hs hx ht=>by
  obtain⟨v,h1,h2⟩:=r.val j s hs
  have h2':=h2.share
  rw[hx] at h2'
  obtain⟨a,vs,rfl,h3,h4⟩:=h2'
  have r':=r.freeze hs hx
  obtain⟨I,i0,turn,out⟩:=ht
  have hno:∀(m:Nat)(ys:List D),(τ.set j (some (.r xs)))[m]? = some (some (S.l ys))->σ[m]?≠some (some (V.ref a)):=fun m ys hm hσ=>by
   rcases Au hm with⟨rfl,z⟩|⟨hn,hm'⟩
   .cases z
   .have hl:j<τ.length:=(qAf.mp hs).1
    exact r'.sep m j ys (.r xs) a hn hm (by rw[qBa hl]) rfl hσ h1
  have hB:SqL X.K (Ie (τ.set j (some (.r xs))) σ H) a vs:=by
   rcases h3 with (hs|⟨o,hs⟩)|hs
   .exact .inl (.inl (by rw[Dt hno];exact hs))
   .exact .inl (.inr #[o,by rw[Dt hno];exact hs])
   .exact .inr hs
  refine#[.ref a,h1,a,rfl,#[vs,h3],fun n m σ1 H1=>m=vs.length-n/\n<=vs.length/\∃z1 τ1,Rep X #[Ie (τ.set j (some (.r xs))) σ H,z] τ1 σ1 #[H1,z1]/\I n τ1,#[vs.length,by simp,qAS _,z,_,r'.inB,i0],?_]
  rintro n m σ1 H1 ⟨rfl,hn,z1,τ1,r1,ih1⟩
  have q:=r1.ext.hh.seq hB
  by_cases hlt:n<vs.length
  .refine .inr #[#[vs,vs[n],q,by simp[hlt]],fun σ' H'=>∃z' τ',Rep X #[Ie (τ.set j (some (.r xs))) σ H,z] τ' σ' #[H',z']/\I (n+1) τ',fun σ' H' p'=>#[vs.length-(n+1),(),rfl,hlt,p'],fun x H' y=>?_]
   obtain⟨p,w,hp,rfl,hy,rfl⟩:=y
   have hw:=hy vs q
   obtain⟨d,hd,id⟩:=Dl h4 hw
   have e1:Ext #[H1,z1] #[upd H1 p (.tup [.int n,w]),z1]:=Ext.own r1.ext.sub hp _
   have r2:=r1.mono e1
   refine#[p,[.int n,w],rfl,.inl (.inl Aj),rfl,.int n,[w],rfl,w,[],rfl,rfl,?_]
   exact#[_,_,_,_,(r2.setd (i:=i1) (.int (n:Int)) hp1).setd (i:=i2) (id.mono r1.ext.zz) hp2,turn n τ1 d hd ih1,c.inB r'.leB fun τ' σ' p' r' h'=>#[p'.z,τ',r',h']]
  .have e:n=vs.length:=()
   subst e
   exact .inl #[#[vs,q,qAd _],c.nx _ _ _ (r1.outB r'.leB) (out τ1 (by rw[<-h4.1];exact ih1))]
 unfold SE at ht
 split at ht
 .rename_i xs hs
  exact lists _ xs hs rfl ht
 .rename_i xs hs
  exact lists _ xs hs rfl ht
 .exact ht.elim]
end
section
variable {X:Cx}
theorem KC {ns:List Int}:∀{its:List Value},Bt (ns.map V.int) its->PyProof.Rows.IntsAre its ns:=by
 induction ns with
 |nil=>intro its h;cases h;exact .nil
 |cons n ns ih =>
  intro its h
  cases h with
  |cons r t =>
   obtain⟨k,rfl⟩:=r
   exact .cons n k (ih t)
theorem E6 {vs:List Value}{ns:List Int}(h:PyProof.Rows.IntsAre vs ns):Bt (ns.map V.int) vs:=by
 induction h with
 |nil=>exact .nil
 |cons n t _ ih=>exact .cons #[t,rfl] ih
theorem Mx {vs:List Value}{ns:List Int}(h:PyProof.Rows.IntsAre vs ns):vs.length=ns.length:=by
 induction h with
 |nil=>rfl
 |cons n t _ ih=>rw[qAU,qAU,ih]
theorem G4 {pins:List (Addr×Obj)}{σ:St}{H:Hp}{s:Shared}{Q:VK}{its:List Value}{out:Array Value}{ns:List Int}(I:Inv X pins σ H s) (a1:PyProof.Rows.IntsAre out.toList ns) (hl:ns.length<=sizeLine)
 (q:∀l,H l=none->Q (.ref l) (upd H l (.lst (ns.map V.int)))):EP X pins σ Q (.ref (s.heap.objs.size+1)) { s with heap:=PyProof.Rows.sortedAll s.heap its out }:=by
 obtain⟨e,he⟩:=PyProof.Rows.sortedAll_at s.heap its out
 refine#[.ref (s.heap.objs.size+1),_,I.laid (t':=s.toks) (fun b o=>PyProof.Rows.sortedAll_old) (qBJ _) (show Ca X.prog X.w _ _ _ (.lst (ns.map V.int)) from #[by rw[qAa];exact hl,out.toList,e,E6 a1,he]),rfl,q _ (I.hok.fresh (qBJ _))]
def JQ (X:Cx):List V->Hp->VK->Prop:=fun xs H Q=>∃p ns,xs=[.ref p]/\SqL X.K H p (ns.map V.int)/\ns.length<64/\∀ns':List Int,ns'.Perm ns->∀l,H l=none->Q (.ref l) (upd H l (.lst (ns'.map V.int)))
theorem JP:FN X (.builtin "sorted") (JQ X):=by
 intro pins s σ H xs us Q I r h
 obtain⟨p,ns,rfl,hq,h64,q⟩:=h
 obtain⟨u,rfl,rx⟩:=Hf r
 cases rx
 obtain⟨its,r',pl,hz⟩:=I.list hq
 have hI:=KC r'
 refine PyProof.Rows.sorted_ints pl.isList hI (by rw[Mx hI];exact h64) fun out ns' a1 a2 a3=>?_
 exact G4 I a1 (by rw[a2.length_eq];rw[qAa] at hz;exact hz) (q ns' a2)
theorem Ou {p pos kpos:Pos}{e:Expr}{t:TA}{b:Bool}{kj:Nat}{kp:Pos}(hg:Gl X "sorted") (hm:X.mg "sorted"=none) (ha:PA X [e] t)
 (he:starEach [e] X.env=(false,eval e X.env)::starEach [] X.env:=by rfl) :
 PE X (.Call (.Name "sorted" p) [e] [#[some "reverse",.Constant (.bool b) kj kp,kpos]] pos) (tCB (JQ X) t):=by
 intro pins s σ H Q I h
 refine wpAny_Call_Name_kw (FG I hg hm qCx ?_ ∅ ∅)
 refine PyProof.Rows.callWith_kw (thn (ha pos pins s σ H _ I h) fun us s1 #[vs,H1,I1,r1,q1]=>?_) (by rw[he];rfl) (by rw[he];rfl)
 refine thn ((Px NB SN:PK X [#[some "reverse",.Constant (.bool b) kj kp,kpos]] _) pos pins s1 σ H1 (fun ws H2=>ws=[V.bl b]/\JQ X vs H2 Q) I1 #[rfl,q1]) fun ws s2 #[zs,H2,I2,rz,ez,q1]=>?_
 subst ez
 obtain⟨w,rfl,rw⟩:=Hf rz
 cases rw
 obtain⟨pp,ns,rfl,hq,h64,q⟩:=q1
 obtain⟨u,rfl,rx⟩:=Hf r1
 cases rx
 obtain⟨its,r',pl,hz⟩:=I2.list hq
 have hI:=KC r'
 refine PyProof.Rows.sorted_ints_rev pl.isList hI (by rw[Mx hI];exact h64) fun out ns' a1 a2 a3=>?_
 exact G4 I2 a1 (by rw[a2.length_eq];rw[qAa] at hz;exact hz) (q ns' a2)
theorem KY {K:W.Frag}{H:Hp}{vs:List V}{ns:List Int}(h:Iss K H vs (ns.map D.int)):vs=ns.map V.int:=by
 refine qBW fun i=>?_
 have hl:=h.1
 rw[qAa] at hl
 rw[qAh]
 by_cases c:i<vs.length
 .have e:=qAb c
  have e2:ns[i]? = some ns[i]:=qAb ()
  have:=h.2 i vs[i] (.int ns[i]) e (by rw[qAh,e2];rfl)
  rw[e,e2,Is.int_inv this]
  rfl
 .rw[qAM.mpr (),qAM.mpr ()]
  rfl
def MC (te:TE3):TE3:=fun τ R=>te τ fun s=>match UI s with
 |some xs=>∃ns:List Int,xs=ns.map D.int/\ns.length<64/\∀ns':List Int,ns'.Perm ns->R (.l (ns'.map D.int))
 |none=>False
theorem Oj {e:Expr}{te:TE3}{p pos:Pos}(he:PE3 X e te) (hg:Gl X "sorted") (hm:X.mg "sorted"=none) (hs:starEach [e] X.env=(false,eval e X.env)::starEach [] X.env:=by exact Ct rfl):PE3 X (.Call (.Name "sorted" p) [e] [] pos) (MC te) :=
 #[Br (Ta (HM JP hg hm qCx (Ak he.out AA hs) (he:=hs))) fun σ H Q hh=>by
  obtain⟨B,z,τ,R,r,ht,q⟩:=hh
  exact#[B,z,τ,_,r,ht,fun s v q1 e1 i1 f1 h1=>by
   split at h1
   .rename_i xs hx
    obtain⟨ns,rfl,h64,h1⟩:=h1
    obtain⟨a,vs,rfl,g2,g1⟩:=OR i1 e1.sub hx
    have ev:=KY g2
    subst ev
    refine#[a,ns,rfl,g1,h64,fun ns' pm d hd hk=>?_]
    exact q (.l (ns'.map D.int)) _ #[_,q1.z] (e1.trans (Ext.own e1.sub hd _)) #[d,ns'.map V.int,rfl,Aj,HF ns'] (fun ys a _ h2=>by
     cases h2
     exact#[e1.hh.free hd,hk d _ Aj,e1.sub.free hd]) (h1 ns' pm)
   .exact h1.elim]]
theorem LO {e:Expr}{te:TE3}{p pos kpos kp:Pos}{b:Bool}{kj:Nat}(he:PE3 X e te) (hg:Gl X "sorted") (hm:X.mg "sorted"=none) (hs:starEach [e] X.env=(false,eval e X.env)::starEach [] X.env:=by exact Ct rfl):PE3 X (.Call (.Name "sorted" p) [e] [#[some "reverse",.Constant (.bool b) kj kp,kpos]] pos) (MC te) :=
 #[Br (Ta (Ou hg hm (Ak he.out AA hs) hs)) fun σ H Q hh=>by
  obtain⟨B,z,τ,R,r,ht,q⟩:=hh
  exact#[B,z,τ,_,r,ht,fun s v q1 e1 i1 f1 h1=>by
   split at h1
   .rename_i xs hx
    obtain⟨ns,rfl,h64,h1⟩:=h1
    obtain⟨a,vs,rfl,g2,g1⟩:=OR i1 e1.sub hx
    have ev:=KY g2
    subst ev
    refine#[a,ns,rfl,g1,h64,fun ns' pm d hd hk=>?_]
    exact q (.l (ns'.map D.int)) _ #[_,q1.z] (e1.trans (Ext.own e1.sub hd _)) #[d,ns'.map V.int,rfl,Aj,HF ns'] (fun ys a _ h2=>by
     cases h2
     exact#[e1.hh.free hd,hk d _ Aj,e1.sub.free hd]) (h1 ns' pm)
   .exact h1.elim]]
end
end L3
namespace CH
open PySem L2 L3
def qd (q:Rat):D:=.tup [.int q.num,.int (q.den:Int)]
abbrev tp (a b:Int):D:=.tup [.int a,.int b]
abbrev Cs:=List (Rat×Rat)
def cd (c:Rat×Rat):D:=.tup [qd c.1,qd c.2]
def tt (cs:Cs)(k:Nat):Rat:=(cs.getD k (0,0)).1
def vv (cs:Cs)(k:Nat):Rat:=(cs.getD k (0,0)).2
def slp (cs:Cs)(m:Rat)(k:Nat):Rat:=if k+1<cs.length then (vv cs (k+1)-vv cs k)/(tt cs (k+1)-tt cs k) else m
def Up (cs:Cs):Prop:=∀k,k+1<cs.length->tt cs k<tt cs (k+1)
def SzC (n:Nat)(cs:Cs):Prop:=∀k,k<cs.length->Sz n (tt cs k)/\Sz n (vv cs k)
theorem NX {cs:Cs}{k:Nat}(h:k<cs.length):atI (cs.map cd) (k:Int)=some (.tup [qd (tt cs k),qd (vv cs k)]):=by
 refine atI_nat ?_
 rw[qAh,qAb h]
 unfold tt vv
 rw[qAg,qAb h]
 rfl
theorem atR {o:Option D}{d:D}{F:D->Prop}(e:o=some d) (h:F d):(match (generalizing:=false) o with|some d=>F d|none=>False):=by subst e;exact h
theorem BU {cs:Cs}{i:Int}(k:Nat) (hi:i=(k:Int)) (h:k<cs.length):atI (cs.map cd) i=some (.tup [qd (tt cs k),qd (vv cs k)]):=by subst hi;exact NX h
def L4 (k:Nat)(a b c d:Int):Prop:=a.natAbs<2^k/\b.natAbs<2^k/\c.natAbs<2^k/\d.natAbs<2^k
theorem l4 {k m:Nat}{p q:Rat}(hp:Sz m p) (hq:Sz m q) (h:m<=k):L4 k p.num p.den q.num q.den:=#[AJ hp.1 h,AJ (Av hp) h,AJ hq.1 h,AJ (Av hq) h]
def Lb (k:Nat)(a:Int):Prop:=a.natAbs<2^k
theorem CK {cs:Cs}{m:Rat}{k:Nat}(h:k+1<cs.length):slp cs m k=(vv cs (k+1)-vv cs k)/(tt cs (k+1)-tt cs k):=if_pos h
theorem AE {cs:Cs}{m:Rat}{k:Nat}(h:¬k+1<cs.length):slp cs m k=m:=if_neg h
theorem QM (q:Rat):((q.num:Int):Rat)=q*(((q.den:Nat):Int):Rat):=by rw[Rat.intCast_natCast];exact EG q
theorem Ef {a b:Rat}(h:a<b):b-a≠0:=⋯
theorem O1 {k:Nat}(h:k≠0):(1:Int).natAbs<2^k:=Nat.one_lt_two_pow h
theorem Ub:((1:Int):Rat)=1*((1:Int):Rat):=by simp
def crv (cs:Cs)(m:Rat):D:=.tup [.tup (cs.map cd),qd m]
structure Crv (cs:Cs)(m:Rat):Prop where
 ne:0<cs.length
 t0:tt cs 0=0
 v0:0<=vv cs 0
 m0:0<=m
 up:Up cs
 vu:∀k,k+1<cs.length->vv cs k<=vv cs (k+1)
 bend:∀k,k+1<cs.length->slp cs m k≠slp cs m (k+1)
structure SzK (n:Nat)(cs:Cs)(m:Rat):Prop where
 len:cs.length<=1000000
 cs:SzC n cs
 m:Sz n m
theorem Pe {q:Rat}(h:0<=q):¬q.num<0:=by have:=Rat.num_nonneg.mpr h;omega
theorem Ga {cs:Cs}{n:Nat}{x:D}(h:(cs.map cd)[n]? = some x):n<cs.length/\x=.tup [qd (tt cs n),qd (vv cs n)]:=by
 have hl:n<cs.length:=by
  have:=(qAf.mp h).1
  rwa [qAa] at this
 have a:=NX hl
 rw[show atI (cs.map cd) (n:Int)=(cs.map cd)[n]? from ?_,h] at a
 .exact#[hl,qAj a]
 .rw[h]
  exact atI_nat h
def kp (cs:Cs)(m:Rat):Nat->Cs
 |0=>[(tt cs 0,vv cs 0)]
 |n+1=>if slp cs m n=slp cs m (n+1) then kp cs m n else kp cs m n++[(tt cs (n+1),vv cs (n+1))]
theorem ME {cs:Cs}{m:Rat}{n:Nat}(h:¬slp cs m n=slp cs m (n+1)):kp cs m (n+1)=kp cs m n++[(tt cs (n+1),vv cs (n+1))]:=if_neg h
theorem Gu {cs:Cs}{m:Rat}{n:Nat}(h:slp cs m n=slp cs m (n+1)):kp cs m (n+1)=kp cs m n:=if_pos h
theorem Kf (cs:Cs)(m:Rat):∀n,(kp cs m n).length<=n+1
 |0=>qAd _
 |n+1=>by
  have:=Kf cs m n
  by_cases h:slp cs m n=slp cs m (n+1)
  .rw[Gu h];omega
  .rw[ME h,qAn];simp;omega
theorem Jh {L M:Cs}{k:Nat}(h:k<L.length):tt (L++M) k=tt L k:=by
 unfold tt;rw[qAg,qAg,qAI h]
theorem JT {L M:Cs}{k:Nat}(h:k<L.length):vv (L++M) k=vv L k:=by
 unfold vv;rw[qAg,qAg,qAI h]
theorem KR {L:Cs}{c:Rat×Rat}:tt (L++[c]) L.length=c.1:=by
 unfold tt;rw[qAg,qAK (qAd _)];simp
theorem K8 {L:Cs}{c:Rat×Rat}:vv (L++[c]) L.length=c.2:=by
 unfold vv;rw[qAg,qAK (qAd _)];simp
theorem AR {L:Cs}{c:Rat×Rat}:(L++[c]).length=L.length+1:=by simp
theorem D7 {L:Cs}{c:Rat×Rat}{M M':Rat}{i:Nat}(hi:i<L.length) (h:(c.2-vv L (L.length-1))/(c.1-tt L (L.length-1))=M):slp (L++[c]) M' i=slp L M i:=by
 rw[CK (by rw[AR];omega)]
 by_cases e:i+1<L.length
 .rw[CK e,Jh e,Jh hi,JT e,JT hi]
 .rw[AE e,Jh hi,JT hi]
  have e':i+1=L.length:=()
  rw[e',KR,K8,show i=L.length-1 from ()]
  exact h
theorem F0 {L:Cs}{c:Rat×Rat}{M':Rat}:slp (L++[c]) M' L.length=M':=AE (by rw[AR];omega)
structure Ord (cs:Cs):Prop where
 ne:0<cs.length
 t0:tt cs 0=0
 v0:0<=vv cs 0
 up:Up cs
 vu:∀k,k+1<cs.length->vv cs k<=vv cs (k+1)
theorem Ord.snoc {L:Cs}{c:Rat×Rat}(h:Ord L) (ht:tt L (L.length-1)<c.1) (hv:vv L (L.length-1)<=c.2):Ord (L++[c]):=by
 have n:=h.ne
 refine#[by rw[AR];omega,by rw[Jh n];exact h.t0,by rw[JT n];exact h.v0,fun k hk=>?_,fun k hk=>?_]
 all_goals
  rw[AR] at hk
  by_cases e:k+1<L.length
 .rw[Jh e,Jh ()];exact h.up k e
 .have e':k+1=L.length:=()
  rw[e',KR,Jh (),show k=L.length-1 from ()];exact ht
 .rw[JT e,JT ()];exact h.vu k e
 .have e':k+1=L.length:=()
  rw[e',K8,JT (),show k=L.length-1 from ()];exact hv
theorem Ord.one {v:Rat}(h:0<=v):Ord [(0,v)]:=#[Nat.one_pos,rfl,h,fun k hk=>by simp at hk,fun k hk=>by simp at hk]
structure Vw (cs:Cs)(m:Rat)(n:Nat)(L:Cs):Prop where
 ord:Ord L
 bend:∀k,k+1<L.length->slp L (slp cs m n) k≠slp L (slp cs m n) (k+1)
 at_:∃j,j<=n/\tt L (L.length-1)=tt cs j/\vv L (L.length-1)=vv cs j/\vv cs n-vv cs j=slp cs m n*(tt cs n-tt cs j)/\tt cs j<=tt cs n/\vv cs j<=vv cs n
theorem seg {a b x y z v w s:Rat}(h1:w-v=s*(b-a)) (h2:(x-w)/(y-b)=s) (h3:b<y):x-v=s*(y-a):=by
 have h4:y-b≠0:=Ef h3
 have h5:x-w=s*(y-b):=⋯
 grind
theorem Ko {x y s:Rat}(h:x=s*y) (hy:y≠0):x/y=s:=⋯
theorem Ia {cs:Cs}{m:Rat}(o:Ord cs):∀n,n<cs.length->Vw cs m n (kp cs m n)
 |0,h=>#[by
  have e:kp cs m 0=[(0,vv cs 0)]:=by show [(tt cs 0,vv cs 0)]=_;rw[o.t0]
  rw[e];exact Ord.one o.v0,fun k hk=>by simp[kp] at hk,0,qAd _,rfl,rfl,⋯,qAc,qAc]
 |n+1,h=>by
  obtain⟨ko,kb,j,hj,ht,hv,hs,tn,vn⟩:=Ia o n ()
  have u:=o.up n h
  have w:=o.vu n h
  have sn:=CK (m:=m) h
  have g:vv cs (n+1)-vv cs j=slp cs m n*(tt cs (n+1)-tt cs j):=seg (z:=0) hs sn.symm u
  by_cases e:slp cs m n=slp cs m (n+1)
  .rw[Gu e]
   exact#[ko,e ▸ kb,j,(),ht,hv,e ▸ g,⋯,⋯]
  .rw[ME e]
   have lt:tt cs j<tt cs (n+1):=⋯
   have sl:(vv cs (n+1)-vv (kp cs m n) ((kp cs m n).length-1))/(tt cs (n+1)-tt (kp cs m n) ((kp cs m n).length-1))=slp cs m n:=by
    rw[ht,hv];exact Ko g (Ef lt)
   have nl:=ko.ne
   refine#[ko.snoc (by rw[ht];exact lt) (by rw[hv];grind),fun k hk=>?_,n+1,qAd _,?_,?_,⋯,qAc,qAc]
   .rw[AR] at hk
    by_cases e1:k+1<(kp cs m n).length
    .rw[D7 (c:=(tt cs (n+1),vv cs (n+1))) () sl,D7 (c:=(tt cs (n+1),vv cs (n+1))) e1 sl]
     exact kb k e1
    .have e2:k+1=(kp cs m n).length:=()
     rw[D7 (c:=(tt cs (n+1),vv cs (n+1))) () sl,AE e1,e2,F0]
     exact e
   .rw[AR,qBk,KR]
   .rw[AR,qBk,K8]
theorem Kn {cs:Cs}{m:Rat}(o:Ord cs) (hm:0<=m):Crv (kp cs m (cs.length-1)) m:=by
 have n:=o.ne
 have k:=Ia (m:=m) o (cs.length-1) ()
 have e:slp cs m (cs.length-1)=m:=AE ()
 exact#[k.ord.ne,k.ord.t0,k.ord.v0,hm,k.ord.up,k.ord.vu,by have b:=k.bend;rw[e] at b;exact b]
theorem RB {lo hi:Int}(c:lo<hi):lo<=(lo+hi)/2/\(lo+hi)/2<hi:=()
theorem UY {a b c:Int}(h:b<c) (h2:a<=b):(b-a).toNat<(c-a).toNat:=()
theorem Vb {m lo:Int}{L:Nat}(h1:0<=lo) (h2:lo<=m){hi:Int}(h3:m<hi) (h4:hi<=L):m.toNat<L:=()
theorem C6 {lo st:Int}{n i:Nat}{x:D}(h:(QP lo st n)[i]? = some x):i<n/\x=.int (lo+i*st):=by
 have hl:i<n:=by
  have:=(qAf.mp h).1
  rwa [AV] at this
 rw[HY hl] at h
 exact#[hl,(qAj h).symm]
theorem fm {a m:Int}(h:0<m):0<=a.fmod m/\a.fmod m<m:=#[qBY a h,qCk a h]
theorem Qh (f:Nat->Int)(n:Nat):((List.range n).map fun i=>some (D.int (f i))).filterMap id=((List.range n).map f).map D.int:=by
 rw[qBO,qBt,<-qB5]
 rfl
theorem IV {a b c:Int}(hc:0<c) (h:a<b):Rat.divInt a c<Rat.divInt b c:=by
 have hc':(0:Rat)<(c:Rat):=qBy.mpr hc
 rw[qAE,qAE,Rat.div_lt_iff hc',qCl (fun z=>absurd (z ▸ hc') qCK)]
 exact qCG.mpr h
theorem LN {a b c:Int}(hc:0<c) (h:a<=b):Rat.divInt a c<=Rat.divInt b c:=by
 by_cases e:a=b
 .rw[e];exact qAc
 .exact qAp (IV hc ())
theorem Jg {a c:Int}(hc:0<c) (h:0<=a):0<=Rat.divInt a c:=(Rat.divInt_nonneg_iff_of_pos_right hc).mpr h
theorem SzC.mono {n m:Nat}{L:Cs}(h:SzC n L) (hk:n<=m):SzC m L:=fun k hl=>#[(h k hl).1.mono hk,(h k hl).2.mono hk]
theorem EW {ms:List Int}{i:Int}(k:Nat) (hi:i=(k:Int)) (h:k<ms.length):atI (ms.map D.int) i=some (.int (cell ms k)):=by
 subst hi
 exact N3 () ()
theorem P5 {a b:Int}{k:Nat}(hb:0<b) (h1:a.natAbs<2^k) (h2:b.natAbs<2^k):Sz k (Rat.divInt a b):=C8 () h1 h2
theorem Rn (cs:Cs):(cs.map cd).all (Bf 2)=true:=by
 rw[qAr]
 intro x hx
 obtain⟨c,_,rfl⟩:=qAL.mp hx
 rfl
def plc (cs:Cs)(t:Rat):Nat->Nat
 |0=>0
 |n+1=>if t<tt cs n then plc cs t n else n
theorem Jf {cs:Cs}{t:Rat}(h:0<cs.length):∀n,n<=cs.length->plc cs t n<cs.length
 |0,_=>h
 |n+1,hn=>by
  unfold plc
  split
  .exact Jf h n ()
  .omega
def val (cs:Cs)(m t:Rat):Rat:=vv cs (plc cs t cs.length)+slp cs m (plc cs t cs.length)*(t-tt cs (plc cs t cs.length))
structure Wq (k:Nat)(a b:Int)(q:Rat):Prop where
 pos:0<b
 eq:(a:Rat)=q*b
 la:Lb k a
 lb:Lb k b
theorem Wq.mono {k n:Nat}{a b:Int}{q:Rat}(h:Wq k a b q) (hk:k<=n):Wq n a b q:=#[h.pos,h.eq,AJ h.la hk,AJ h.lb hk]
theorem Wq.of {k:Nat}{q:Rat}(h:Sz k q):Wq k q.num q.den q:=#[by have:=den_pos q;omega,QM q,h.1,Av h]
theorem Wq.minus {k:Nat}{a b c d:Int}{p q:Rat}(h:Wq k a b p) (g:Wq k c d q):Wq (k+k+1) (a*d-c*b) (b*d) (p-q):=by
 refine#[qCh h.pos g.pos,?_,IK (Ay h.la g.lb) (Ay g.la h.lb),AJ (Ay h.lb g.lb) ()]
 rw[qBg,qAl,qAl,qAl,h.eq,g.eq]
 grind
theorem Wq.mul {k n:Nat}{a b c d:Int}{p q:Rat}(h:Wq k a b p) (g:Wq n c d q):Wq (k+n) (a*c) (b*d) (p*q):=by
 refine#[qCh h.pos g.pos,?_,Ay h.la g.la,Ay h.lb g.lb]
 rw[qAl,qAl,h.eq,g.eq]
 grind
theorem Wq.inv {k:Nat}{a b:Int}{q:Rat}(h:Wq k a b q) (hq:0<q):0<a/\Wq k b a (1/q):=by
 have hb:(0:Rat)<(b:Rat):=qBy.mpr h.pos
 have ha:(0:Rat)<(a:Rat):=by rw[h.eq];exact qBc hq hb
 have ha':0<a:=qBy.mp ha
 have q0:q≠0:=fun z=>absurd (z ▸ hq) qCK
 refine#[ha',ha',?_,h.lb,h.la]
 rw[h.eq]
 grind
theorem Wq.lt_iff {k n:Nat}{a b c d:Int}{p q:Rat}(h:Wq k a b p) (g:Wq n c d q):a*d<c*b ↔ p<q:=by
 have hb:(0:Rat)<(b:Rat):=qBy.mpr h.pos
 have hd:(0:Rat)<(d:Rat):=qBy.mpr g.pos
 rw[<-qCG,qAl,qAl,h.eq,g.eq]
 rw[show p*(b:Rat)*(d:Rat)=p*((b:Rat)*d) from ⋯,show q*(d:Rat)*(b:Rat)=q*((b:Rat)*d) from ⋯]
 have hp:=qBc hb hd
 constructor
 .intro e
  by_cases z:p<q
  .exact z
  .exact absurd e (qAR.mpr (Rat.mul_le_mul_of_nonneg_right (qAR.mp z) (qAp hp)))
 .intro e
  exact Rat.mul_lt_mul_of_pos_right e hp
theorem Wq.one:Wq 1 1 1 1:=#[∅,Ub,O1 ∅,O1 ∅]
theorem Wq.plus {k n:Nat}{a b c d:Int}{p q:Rat}(h:Wq k a b p) (g:Wq n c d q):Wq (k+n+1) (a*d+c*b) (b*d) (p+q):=by
 refine#[qCh h.pos g.pos,?_,MM (Ay h.la g.lb) (AJ (Ay g.la h.lb) ()),AJ (Ay h.lb g.lb) ()]
 rw[qBm,qAl,qAl,qAl,h.eq,g.eq]
 grind
theorem Wq.cast {k:Nat}{a b:Int}{p q:Rat}(h:Wq k a b p) (e:p=q):Wq k a b q:=e ▸ h
theorem Wq.l4 {k n:Nat}{a b c d:Int}{p q:Rat}(h:Wq k a b p) (g:Wq k c d q) (hk:k<=n):L4 n a b c d:=#[AJ h.la hk,AJ h.lb hk,AJ g.la hk,AJ g.lb hk]
theorem Pg {cs:Cs}{t:Rat}{n:Nat}(h:t<tt cs n):plc cs t (n+1)=plc cs t n:=if_pos h
theorem Kd {cs:Cs}{t:Rat}{n:Nat}(h:¬t<tt cs n):plc cs t (n+1)=n:=if_neg h
theorem OA {a b:Rat}(h:a<b):0<b-a:=⋯
def sat (cs:Cs)(m t:Rat):Rat:=slp cs m (plc cs t cs.length)
theorem SS {L M:Cs}{t:Rat}:∀n,n<=L.length->plc (L++M) t n=plc L t n
 |0,_=>rfl
 |n+1,h=>by
  unfold plc
  rw[Jh (),SS n ()]
theorem KP {L:Cs}{c:Rat×Rat}{t:Rat}:plc (L++[c]) t (L++[c]).length=if t<c.1 then plc L t L.length else L.length:=by
 rw[AR]
 conv=>lhs;unfold plc
 rw[KR,SS _ (qAd _)]
theorem JZ {L:Cs}{c:Rat×Rat}{M M' t:Rat}(n:0<L.length) (h:(c.2-vv L (L.length-1))/(c.1-tt L (L.length-1))=M):sat (L++[c]) M' t=if t<c.1 then sat L M t else M':=by
 unfold sat
 rw[KP]
 split
 .exact D7 (Jf n _ (qAd _)) h
 .exact F0
theorem HK {L:Cs}{c:Rat×Rat}{M M' t:Rat}(n:0<L.length) (h:(c.2-vv L (L.length-1))/(c.1-tt L (L.length-1))=M):val (L++[c]) M' t=if t<c.1 then val L M t else c.2+M'*(t-c.1):=by
 unfold val
 rw[KP]
 split
 .have p:=Jf (t:=t) n _ (qAd _)
  rw[D7 p h,JT p,Jh p]
 .rw[F0,K8,KR]
theorem JA {L:Cs}{t:Rat}(n:0<L.length) (h:tt L (L.length-1)<=t):plc L t L.length=L.length-1:=by
 have e:L.length=L.length-1+1:=()
 rw[e,Kd (qAR.mpr h),qBk]
theorem JV {L:Cs}{M t:Rat}(n:0<L.length) (h:tt L (L.length-1)<=t):sat L M t=M:=by
 unfold sat
 rw[JA n h,AE ()]
theorem Eo {L:Cs}{M t:Rat}(n:0<L.length) (h:tt L (L.length-1)<=t):val L M t=vv L (L.length-1)+M*(t-tt L (L.length-1)):=by
 unfold val
 rw[JA n h,AE ()]
def pre (cs:Cs)(n:Nat):Cs:=cs.take (n+1)
theorem MU {cs:Cs}{n:Nat}(h:n<cs.length):(pre cs n).length=n+1:=by unfold pre;rw[qAT];omega
theorem R9 {cs:Cs}{n:Nat}(h:n+1<cs.length):pre cs (n+1)=pre cs n++[(tt cs (n+1),vv cs (n+1))]:=by
 unfold pre tt vv
 rw[List.take_succ,qAb h,qAg,qAb h]
 rfl
theorem RM {cs:Cs}{n k:Nat}(h:n<cs.length) (hk:k<=n):tt (pre cs n) k=tt cs k/\vv (pre cs n) k=vv cs k:=by
 have e:cs=pre cs n++cs.drop (n+1):=(qB3 _ _).symm
 have l:=MU h
 constructor
 .conv=>rhs;rw[e]
  rw[Jh ()]
 .conv=>rhs;rw[e]
  rw[JT ()]
theorem PZ {cs:Cs}(n:0<cs.length):pre cs (cs.length-1)=cs:=by
 unfold pre
 exact qBZ ()
theorem Ml {cs:Cs}{m:Rat}(o:Ord cs) (t:Rat):∀n,n<cs.length->val (kp cs m n) (slp cs m n) t=val (pre cs n) (slp cs m n) t/\sat (kp cs m n) (slp cs m n) t=sat (pre cs n) (slp cs m n) t
 |0,h=>by
  have e:pre cs 0=kp cs m 0:=by
   cases cs with
   |nil=>exact absurd h (by simp)
   |cons c r=>rfl
  rw[e]
  exact#[rfl,rfl]
 |n+1,h=>by
  obtain⟨iv,is⟩:=Ml (m:=m) o t n ()
  have k:=Ia (m:=m) o n ()
  obtain⟨j,hj,ht,hv,hs,tn,vn⟩:=k.at_
  have u:=o.up n h
  have sn:=CK (m:=m) h
  have g:vv cs (n+1)-vv cs j=slp cs m n*(tt cs (n+1)-tt cs j):=seg (z:=0) hs sn.symm u
  have lp:=MU (cs:=cs) (n:=n) ()
  have pl:=RM (cs:=cs) (n:=n) (k:=n) () (qAd _)
  have sp:(vv cs (n+1)-vv (pre cs n) ((pre cs n).length-1))/(tt cs (n+1)-tt (pre cs n) ((pre cs n).length-1))=slp cs m n:=by
   rw[lp,qBk,pl.1,pl.2,sn]
  rw[R9 h,HK (c:=(tt cs (n+1),vv cs (n+1))) () sp,JZ (c:=(tt cs (n+1),vv cs (n+1))) () sp]
  have lt:tt cs j<tt cs (n+1):=⋯
  by_cases e:slp cs m n=slp cs m (n+1)
  .rw[Gu e,<-e,iv,is]
   by_cases c:t<tt cs (n+1)
   .rw[if_pos c,if_pos c];exact#[rfl,rfl]
   .rw[if_neg c,if_neg c]
    have c':=qAR.mp c
    have en:tt (pre cs n) ((pre cs n).length-1)<=t:=by rw[lp,qBk,pl.1];grind
    rw[Eo () en,JV () en,lp,qBk,pl.1,pl.2]
    refine#[?_,rfl]
    have q:vv cs (n+1)-vv cs n=slp cs m n*(tt cs (n+1)-tt cs n):=by
     have:=Ef u
     rw[sn];grind
    show _=vv cs (n+1)+slp cs m n*(t-tt cs (n+1))
    grind
  .have sl:(vv cs (n+1)-vv (kp cs m n) ((kp cs m n).length-1))/(tt cs (n+1)-tt (kp cs m n) ((kp cs m n).length-1))=slp cs m n:=by
    rw[ht,hv];exact Ko g (Ef lt)
   rw[ME e,HK (c:=(tt cs (n+1),vv cs (n+1))) k.ord.ne sl,JZ (c:=(tt cs (n+1),vv cs (n+1))) k.ord.ne sl,iv,is]
   exact#[rfl,rfl]
theorem Ii {cs:Cs}{m:Rat}(o:Ord cs) (t:Rat):val (kp cs m (cs.length-1)) m t=val cs m t/\sat (kp cs m (cs.length-1)) m t=sat cs m t:=by
 have n:=o.ne
 have k:=Ml (m:=m) o t (cs.length-1) ()
 rw[AE (show ¬cs.length-1+1<cs.length from ()),PZ n] at k
 exact k
theorem AN {cs:Cs}(u:Up cs){i:Nat}:∀{j:Nat},i<=j->j<cs.length->tt cs i<=tt cs j
 |0,h,_=>by have:i=0:=()
            subst this;exact qAc
 |j+1,h,hl=>by
  by_cases e:i=j+1
  .subst e;exact qAc
  .have:=AN u (i:=i) (j:=j) () ()
   have:=u j hl
   grind
theorem JF {cs:Cs}(u:∀k,k+1<cs.length->vv cs k<=vv cs (k+1)){i:Nat}:∀{j:Nat},i<=j->j<cs.length->vv cs i<=vv cs j
 |0,h,_=>by have:i=0:=()
            subst this;exact qAc
 |j+1,h,hl=>by
  by_cases e:i=j+1
  .subst e;exact qAc
  .have:=JF u (i:=i) (j:=j) () ()
   have:=u j hl
   grind
theorem Kc {cs:Cs}(u:Up cs){t:Rat}{k:Nat}(h1:tt cs k<=t) (h2:k+1<cs.length->t<tt cs (k+1)):∀n,k<n->n<=cs.length->plc cs t n=k
 |0,h,_=>()
 |n+1,h,hn=>by
  by_cases e:n=k
  .subst e;exact Kd (qAR.mpr h1)
  .rw[Pg,Kc u h1 h2 n () ()]
   have a:=h2 ()
   have b:=AN u (i:=k+1) (j:=n) () ()
   grind
structure On (cs:Cs)(k:Nat)(t:Rat):Prop where
 lt:k<cs.length
 lo:tt cs k<=t
 hi:k+1<cs.length->t<=tt cs (k+1)
theorem DH {cs:Cs}{m:Rat}(u:Up cs){k:Nat}(h:k+1<cs.length):vv cs (k+1)=vv cs k+slp cs m k*(tt cs (k+1)-tt cs k):=by
 have:=Ef (u k h)
 rw[CK h];grind
theorem Bu {cs:Cs}{m t:Rat}(u:Up cs){k:Nat}(o:On cs k t):val cs m t=vv cs k+slp cs m k*(t-tt cs k):=by
 have hl:=o.lt
 by_cases e:k+1<cs.length/\t=tt cs (k+1)
 .obtain⟨e1,e2⟩:=e
  have p:plc cs t cs.length=k+1:=Kc u (by rw[e2];exact qAc) (fun h=>by rw[e2];exact u _ h) _ e1 (qAd _)
  unfold val
  rw[p,DH (m:=m) u e1,e2]
  grind
 .have p:plc cs t cs.length=k:=Kc u o.lo (fun h=>by
   have a:=o.hi h
   have b:t≠tt cs (k+1):=fun z=>e #[h,z]
   grind) _ hl (qAd _)
  unfold val
  rw[p]
def nxt (cs:Cs)(i:Nat):Rat:=if i+1<cs.length then tt cs (i+1) else tt cs i+1
theorem G5 {cs:Cs}(u:Up cs) (i:Nat):tt cs i<nxt cs i:=by
 unfold nxt
 split
 .exact u _ (by assumption)
 .grind
theorem IS {cs:Cs}{i:Nat}{t:Rat}(h:i<cs.length) (h1:tt cs i<=t) (h2:t<=nxt cs i):On cs i t:=#[h,h1,fun e=>by unfold nxt at h2;rw[if_pos e] at h2;exact h2]
theorem MI {a x y:Rat}(h1:a<x) (h2:a<y):∃t,a<t/\t<=x/\t<=y:=by
 by_cases e:x<=y
 .exact#[x,h1,qAc,e]
 .exact#[y,h2,⋯,qAc]
theorem Fm {cs:Cs}{m:Rat}(a:Crv cs m){i:Nat}(h:i<cs.length):0<=tt cs i:=by
 have:=AN a.up (i:=0) (j:=i) () h
 rw[a.t0] at this
 exact this
theorem HR {cs ds:Cs}{m k:Rat}(a:Crv cs m) (b:Crv ds k) (h:∀t,0<=t->val cs m t=val ds k t){i:Nat}(hc:i<cs.length) (hd:i<ds.length) (et:tt cs i=tt ds i) (ev:vv cs i=vv ds i):slp cs m i=slp ds k i:=by
 obtain⟨t,h1,h2,h3⟩:=MI (G5 a.up i) (show tt cs i<nxt ds i by rw[et];exact G5 b.up i)
 have e:=h t (by have:=Fm a hc;grind)
 rw[Bu a.up (IS hc (qAp h1) h2),Bu b.up (IS hd (by rw[<-et];exact qAp h1) h3),ev,et] at e
 have n:t-tt ds i≠0:=by rw[<-et];exact Ef h1
 grind
theorem KJ {cs ds:Cs}{m k:Rat}(a:Crv cs m) (b:Crv ds k) (h:∀t,0<=t->val cs m t=val ds k t){i:Nat}(hc:i+1<cs.length) (hd:i<ds.length) (et:tt cs i=tt ds i) (ev:vv cs i=vv ds i):i+1<ds.length/\tt ds (i+1)<=tt cs (i+1):=by
 have es:=HR a b h () hd et ev
 have bt:=a.bend i hc
 have u:=a.up i hc
 have key:(i+1<ds.length->tt cs (i+1)<tt ds (i+1))->False:=fun hx=>by
  have:∃t,tt cs (i+1)<t/\t<=nxt cs (i+1)/\(i+1<ds.length->t<=tt ds (i+1)):=by
   by_cases e:i+1<ds.length
   .obtain⟨t,h1,h2,h3⟩:=MI (G5 a.up (i+1)) (hx e)
    exact#[t,h1,h2,fun _=>h3]
   .exact#[nxt cs (i+1),G5 a.up (i+1),qAc,fun z=>absurd z e]
  obtain⟨t,h1,h2,h3⟩:=this
  have e:=h t (by have:=Fm a hc;grind)
  rw[Bu a.up (IS hc (qAp h1) h2),Bu b.up #[hd,by rw[<-et];grind,h3],DH (m:=m) a.up hc,ev,et,<-es] at e
  have n:t-tt cs (i+1)≠0:=Ef h1
  apply bt
  grind
 by_cases e:i+1<ds.length
 .refine#[e,?_]
  by_cases z:tt ds (i+1)<=tt cs (i+1)
  .exact z
  .exact(key fun _=>⋯).elim
 .exact(key fun z=>absurd z e).elim
theorem KI {cs ds:Cs}{m k:Rat}(a:Crv cs m) (b:Crv ds k) (h:∀t,0<=t->val cs m t=val ds k t):∀i,(i<cs.length ↔ i<ds.length)/\(i<cs.length->tt cs i=tt ds i/\vv cs i=vv ds i)
 |0=>by
  refine#[#[fun _=>b.ne,fun _=>a.ne],fun _=>#[by rw[a.t0,b.t0],?_]]
  have e:=h 0 qAc
  rw[Bu a.up (IS a.ne (by rw[a.t0];exact qAc) (by rw[<-a.t0];exact qAp (G5 a.up 0))),Bu b.up (IS b.ne (by rw[b.t0];exact qAc) (by rw[<-b.t0];exact qAp (G5 b.up 0))),a.t0,b.t0] at e
  grind
 |i+1=>by
  obtain⟨h1,h2⟩:=KI a b h i
  have fw:i+1<cs.length->i+1<ds.length/\tt ds (i+1)<=tt cs (i+1):=fun e=>by
   obtain⟨et,ev⟩:=h2 ()
   exact KJ a b h e (h1.mp ()) et ev
  have bw:i+1<ds.length->i+1<cs.length/\tt cs (i+1)<=tt ds (i+1):=fun e=>by
   obtain⟨et,ev⟩:=h2 (h1.mpr ())
   exact KJ b a (fun t ht=>(h t ht).symm) e (h1.mpr ()) et.symm ev.symm
  refine#[#[fun e=>(fw e).1,fun e=>(bw e).1],fun e=>?_]
  obtain⟨e1,e2⟩:=fw e
  have e3:=(bw e1).2
  have et:tt cs (i+1)=tt ds (i+1):=⋯
  obtain⟨eti,evi⟩:=h2 ()
  have es:=HR a b h () () eti evi
  exact#[et,by rw[DH (m:=m) a.up e,DH (m:=k) b.up e1,es,et,eti,evi]]
theorem JS {cs ds:Cs}{m k:Rat}(a:Crv cs m) (b:Crv ds k) (h:∀t,0<=t->val cs m t=val ds k t):cs=ds/\m=k:=by
 have st:=KI a b h
 have el:cs.length=ds.length:=by
  have x:=(st cs.length).1
  have y:=(st ds.length).1
  omega
 have na:=a.ne
 constructor
 .refine List.ext_getElem el fun i h1 h2=>?_
  obtain⟨et,ev⟩:=(st i).2 h1
  unfold tt at et
  unfold vv at ev
  rw[qAg,qAg,qAb h1,qAb h2] at et ev
  exact Prod.ext et ev
 .obtain⟨et,ev⟩:=(st (cs.length-1)).2 ()
  have es:=HR a b h (i:=cs.length-1) () () et ev
  rwa [AE (),AE ()] at es
theorem Wq.div {k n:Nat}{a b c d:Int}{p q:Rat}(h:Wq k a b p) (g:Wq n c d q) (hq:0<q):Wq (k+n) (a*d) (b*c) (p/q):=by
 refine(h.mul (g.inv hq).2).cast ?_
 grind
theorem OX (p q:Rat):eqN 1 (qd p) (qd q)=decide (p=q):=by
 by_cases h:p=q
 .subst h
  rw[decide_eq_true rfl]
  exact EM 1 _ rfl
 .rw[decide_eq_false h]
  cases e:eqN 1 (qd p) (qd q) with
  |false=>rfl
  |true =>
   exfalso
   apply h
   have e':((p.num==q.num&&((p.den:Int)==(q.den:Int)&&true))&&true)=true:=e
   rw[qCJ,qCJ,qA2,beq_iff_eq,beq_iff_eq] at e'
   exact Rat.ext e'.1 (Int.ofNat.inj e'.2)
theorem neT (p q:Rat){A B:Prop}(h1:¬p=q->A) (h2:p=q->B):if (!eqN 1 (qd p) (qd q))=true then A else B:=by
 rw[OX]
 exact IY h1 h2
theorem eqT (p q:Rat){A B:Prop}(h1:p=q->A) (h2:¬p=q->B):if eqN 1 (qd p) (qd q)=true then A else B:=by
 rw[OX]
 exact Cw h1 h2
def Bgn (cs:Cs):Prop:=0<cs.length/\tt cs 0=0/\0<=vv cs 0
def Ris (cs:Cs)(n:Nat):Prop:=∀k,k<n->k+1<cs.length->tt cs k<tt cs (k+1)/\vv cs k<=vv cs (k+1)
def NA (cs:Cs)(m:Rat):List Rat:=(List.range cs.length).map (slp cs m)
theorem Od (cs:Cs)(m:Rat):(NA cs m).length=cs.length:=by unfold NA;rw[qAa,qAt]
theorem atI_nat {α:Type}{xs:List α}{k:Nat}(h:k<xs.length):atI xs (k:Int)=xs[k]? := by
 unfold atI ixN
 rw[if_pos (),if_pos ()]
 simp
theorem PU {cs:Cs}{m:Rat}{i:Int}(k:Nat) (hi:i=(k:Int)) (h:k<cs.length):atI ((NA cs m).map qd) i=some (qd (slp cs m k)):=by
 subst hi
 rw[atI_nat (by rw[qAa,Od];exact h)]
 unfold NA
 rw[qAh,qAh,qA6 h]
 rfl
theorem Oo (cs:Cs)(m:Rat)(h:0<cs.length):(((List.range (cs.length-1)).map fun i=>some (qd (slp cs m i))).filterMap id)++[qd m]=(NA cs m).map qd:=by
 have e:((List.range (cs.length-1)).map fun i=>some (qd (slp cs m i))).filterMap id=(List.range (cs.length-1)).map fun i=>qd (slp cs m i):=by
  rw[qBO]
  exact congrFun (qB5 (f:=fun i=>qd (slp cs m i))) _
 rw[e]
 unfold NA
 rw[qBt]
 have e2:cs.length=cs.length-1+1:=()
 conv=>rhs;rw[e2,List.range_succ,qAB]
 show _++[qd m]=_++[qd (slp cs m (cs.length-1))]
 rw[AE (cs:=cs) (m:=m) (k:=cs.length-1) ()]
 rfl
def tOf:D->Rat
 |.tup (.tup [.int a,.int b]::_)=>Rat.divInt a b
 |_=>0
theorem OU (a b:Rat):tOf (.tup [qd a,qd b])=a:=qCi a
theorem CG {cs:Cs}{t:Rat}(h0:tt cs 0<=t):∀n,0<n->tt cs (plc cs t n)<=t/\plc cs t n<n/\∀i,plc cs t n<i->i<n->t<tt cs i
 |1,_=>by
  have e:plc cs t 1=0:=by rw[Kd (n:=0) (qAR.mpr h0)]
  rw[e]
  exact#[h0,Nat.one_pos,fun i h1 h2=>()]
 |n+2,_=>by
  obtain⟨h1,h2,h3⟩:=CG h0 (n+1) (Nat.succ_pos n)
  by_cases c:t<tt cs (n+1)
  .rw[Pg c]
   refine#[h1,(),fun i i1 i2=>?_]
   by_cases e:i=n+1
   .rw[e];exact c
   .exact h3 i i1 ()
  .rw[Kd c]
   exact#[qAR.mp c,(),fun i i1 i2=>()]
theorem Qx {cs:Cs}{t:Rat}(up:Up cs) (h0:tt cs 0<=t){i:Nat}(hi:i<cs.length):(!decide (t<tt cs i))=decide (i<plc cs t cs.length+1):=by
 obtain⟨h1,h2,h3⟩:=CG h0 cs.length ()
 by_cases c:i<plc cs t cs.length+1
 .rw[decide_eq_true c,decide_eq_false (qAR.mpr (qAY (AN up (i:=i) (j:=plc cs t cs.length) () h2) h1))]
  rfl
 .rw[decide_eq_false c,decide_eq_true (h3 i () hi)]
  rfl
theorem O9 {a b:Rat}(ha:0<=a) (hb:0<b):0<=a/b:=by
 by_cases h:0<=a/b
 .exact h
 .have h':0 < -(a/b):=⋯
  have:=qBc h' hb
  have e:-(a/b)*b=-a:=⋯
  rw[e] at this
  grind
theorem NC {a b:Rat}(ha:0<a) (hb:0<b):0<a/b:=by
 have h:=O9 (qAp ha) hb
 by_cases e:a/b=0
 .have:a=0:=by
   have e2:a=a/b*b:=⋯
   rw[e2,e];grind
  grind
 .exact qCm h (fun z=>e z.symm)
structure Ih (cs:Cs)(m:Rat):Prop where
 o:Ord cs
 m0:0<=m
theorem Mz {cs:Cs}{m:Rat}(r:Ih cs m) (k:Nat):0<=slp cs m k:=by
 by_cases c:k+1<cs.length
 .rw[CK c]
  have h1:=r.o.vu k c
  have h2:=r.o.up k c
  exact O9 ⋯ ⋯
 .rw[AE c];exact r.m0
theorem FD {cs:Cs}(o:Ord cs){t:Rat}(ht:0<=t):On cs (plc cs t cs.length) t:=by
 have n:=o.ne
 obtain⟨h1,h2,h3⟩:=CG (cs:=cs) (t:=t) (by rw[o.t0];exact ht) cs.length n
 exact#[h2,h1,fun c=>qAp (h3 _ () c)]
theorem Sj {cs:Cs}{m t:Rat}(r:Ih cs m){k:Nat}(hk:k<cs.length) (h:tt cs k<=t):vv cs k<=val cs m t:=by
 have t0:0<=t:=by
  have:=AN r.o.up (i:=0) (j:=k) () hk
  rw[r.o.t0] at this
  grind
 have n:=r.o.ne
 obtain⟨h1,h2,h3⟩:=CG (cs:=cs) (t:=t) (by rw[r.o.t0];exact t0) cs.length n
 have kj:k<=plc cs t cs.length:=by
  by_cases c:k<=plc cs t cs.length
  .exact c
  .have:=h3 k () hk
   grind
 have:=JF r.o.vu kj h2
 have s:=Mz r (plc cs t cs.length)
 have p:=qAC s (show 0<=t-tt cs (plc cs t cs.length) from ⋯)
 show vv cs k<=vv cs (plc cs t cs.length)+slp cs m (plc cs t cs.length)*(t-tt cs (plc cs t cs.length))
 grind
theorem Q4 {cs:Cs}{m t:Rat}(r:Ih cs m){k:Nat}(hk:k<cs.length) (t0:0<=t) (h:t<=tt cs k):val cs m t<=vv cs k:=by
 have on:=FD r.o t0
 generalize hj:plc cs t cs.length=j at on
 by_cases c:j<k
 .have c1:j+1<cs.length:=()
  have:=JF r.o.vu (i:=j+1) (j:=k) () hk
  have e:=DH (m:=m) r.o.up c1
  have s:=Mz r j
  have p:=qAC s (show 0<=tt cs (j+1)-t by have:=on.hi c1;grind)
  rw[Bu r.o.up on]
  grind
 .have e1:=AN r.o.up (i:=k) (j:=j) () on.lt
  have e2:=on.lo
  have e:t=tt cs k:=⋯
  by_cases c2:j=k
  .subst c2
   rw[Bu r.o.up on,e]
   grind
  .have e3:=AN r.o.up (i:=k+1) (j:=j) () on.lt
   have e4:=r.o.up k (by have:=on.lt;omega)
   grind
theorem EH {cs:Cs}{m x y:Rat}(r:Ih cs m) (x0:0<=x) (h:x<=y):val cs m x<=val cs m y:=by
 have ox:=FD r.o x0
 have oy:=FD r.o (qAY x0 h)
 by_cases c:plc cs y cs.length<=plc cs x cs.length
 .have e1:=AN r.o.up c ox.lt
  have oy2:On cs (plc cs x cs.length) y\/plc cs y cs.length<plc cs x cs.length:=by
   by_cases e:plc cs y cs.length=plc cs x cs.length
   .rw[<-e];exact .inl oy
   .exact .inr ()
  rcases oy2 with oy2|oy2
  .rw[Bu r.o.up ox,Bu r.o.up oy2]
   have s:=Mz r (plc cs x cs.length)
   have p:=qAC s (show 0<=y-x from ⋯)
   grind
  .have h3:=(CG (cs:=cs) (t:=y) (by rw[r.o.t0];exact qAY x0 h) cs.length r.o.ne).2.2 _ oy2 ox.lt
   have:=ox.lo
   grind
 .have c':plc cs x cs.length+1<cs.length:=by have:=oy.lt;omega
  have h1:=Q4 (m:=m) r c' x0 (ox.hi c')
  have h2:=Sj (m:=m) (t:=y) r c' (by
   have e3:=AN r.o.up (i:=plc cs x cs.length+1) (j:=plc cs y cs.length) () oy.lt
   have:=oy.lo
   grind)
  exact qAY h1 h2
theorem DK {cs:Cs}{m:Rat}(o:Ord cs){k:Nat}(hk:k<cs.length):val cs m (tt cs k)=vv cs k:=by
 rw[Bu (k:=k) o.up #[hk,qAc,fun c=>qAp (o.up k c)]]
 grind
theorem F1 {cs:Cs}{m:Rat}(o:Ord cs):val cs m 0=vv cs 0:=by
 have:=DK (m:=m) o o.ne
 rw[o.t0] at this
 exact this
def T (ts:List Rat)(i:Nat):Rat:=ts.getD i 0
structure Tms (cs ds:Cs)(ts:List Rat):Prop where
 ne:0<ts.length
 t0:T ts 0=0
 up:∀i,i+1<ts.length->T ts i<T ts (i+1)
 a:∀k,k<cs.length->∃i,i<ts.length/\T ts i=tt cs k
 b:∀k,k<ds.length->∃i,i<ts.length/\T ts i=tt ds k
 of:∀i,i<ts.length->(∃k,k<cs.length/\T ts i=tt cs k)\/∃k,k<ds.length/\T ts i=tt ds k
theorem C9 {ts:List Rat}(u:∀i,i+1<ts.length->T ts i<T ts (i+1)){i:Nat}:∀{j:Nat},i<=j->j<ts.length->T ts i<=T ts j
 |0,h,_=>by have:i=0:=()
            subst this;exact qAc
 |j+1,h,hj=>by
  by_cases e:i=j+1
  .subst e;exact qAc
  .have h1:=C9 u (i:=i) (j:=j) () ()
   have h2:=u j hj
   grind
theorem K5 {cs ds:Cs}{ts:List Rat}(t:Tms cs ds ts){i:Nat}(h:i<ts.length):0<=T ts i:=by
 have:=C9 t.up (i:=0) (j:=i) () h
 rw[t.t0] at this
 exact this
theorem Tms.swap {cs ds:Cs}{ts:List Rat}(t:Tms cs ds ts):Tms ds cs ts:=#[t.ne,t.t0,t.up,t.b,t.a,fun i h=>(t.of i h).symm]
theorem Kq {cs ds:Cs}{ts:List Rat}(o:Ord cs) (t:Tms cs ds ts){i:Nat}(hi:i<ts.length){x:Rat}(h1:T ts i<=x) (h2:i+1<ts.length->x<=T ts (i+1)):On cs (plc cs (T ts i) cs.length) x:=by
 have on:=FD o (K5 t hi)
 obtain⟨_,p2,p3⟩:=CG (cs:=cs) (t:=T ts i) (by rw[o.t0];exact K5 t hi) cs.length o.ne
 refine#[on.lt,by have:=on.lo;grind,fun c=>?_]
 have lt:=p3 _ (qBs _) c
 obtain⟨j,hj,ej⟩:=t.a _ c
 have ij:i<j:=by
  by_cases z:i<j
  .exact z
  .have:=C9 t.up (i:=j) (j:=i) () hi
   rw[ej] at this
   grind
 have:=h2 ()
 have h3:=C9 t.up (i:=i+1) (j:=j) () hj
 rw[ej] at h3
 grind
theorem KS {cs ds:Cs}{ts:List Rat}{m:Rat}(o:Ord cs) (t:Tms cs ds ts){i:Nat}(hi:i<ts.length){x:Rat}(h1:T ts i<=x) (h2:i+1<ts.length->x<=T ts (i+1)) :
 val cs m x=val cs m (T ts i)+slp cs m (plc cs (T ts i) cs.length)*(x-T ts i):=by
 rw[Bu o.up (Kq o t hi h1 h2),Bu o.up (Kq o t hi qAc (fun c=>qAp (t.up i c)))]
 grind
theorem Ki {cs ds:Cs}{ts:List Rat}{m:Rat}(o:Ord cs) (t:Tms cs ds ts):slp cs m (plc cs (T ts (ts.length-1)) cs.length)=m:=by
 have n:=o.ne
 obtain⟨j,hj,ej⟩:=t.a (cs.length-1) ()
 have:=C9 t.up (i:=j) (j:=ts.length-1) () (by have:=t.ne;omega)
 rw[ej] at this
 rw[JA n this]
 exact AE ()
theorem N5 {ts:List Rat}(ne:0<ts.length) (t0:T ts 0=0){x:Rat}(x0:0<=x):∃i,i<ts.length/\T ts i<=x/\(i+1<ts.length->x<=T ts (i+1)):=by
 have all:∀n,n<ts.length->T ts n<=x\/∃i,i<ts.length/\T ts i<=x/\(i+1<ts.length->x<=T ts (i+1)):=by
  intro n
  induction n with
  |zero=>intro _;exact .inl (by rw[t0];exact x0)
  |succ n ih =>
   intro h
   rcases ih () with h1|h1
   .by_cases c:T ts (n+1)<=x
    .exact .inl c
    .exact .inr #[n,(),h1,fun _=>⋯]
   .exact .inr h1
 rcases all (ts.length-1) () with h|h
 .exact#[ts.length-1,(),h,fun c=>()]
 .exact h
def gap (cs:Cs)(m:Rat)(ds:Cs)(k:Rat)(x:Rat):Rat:=val cs m x-val ds k x
structure Mrg (cs ds:Cs)(i p:Nat)(ts:List Rat):Prop where
 inc:ts.Pairwise (· < ·)
 of:∀x∈ts,(∃a,a<i/\x=tt cs a)\/∃b,b<p/\x=tt ds b
 a:∀k,k<i->tt cs k∈ts
 b:∀k,k<p->tt ds k∈ts
 lt:∀x∈ts,∀k,p<=k->k<ds.length->x<tt ds k
 len:ts.length<=i+p
theorem G8 {cs:Cs}(u:Up cs){i j:Nat}(h:i<j) (hj:j<cs.length):tt cs i<tt cs j:=by
 have h1:=u i ()
 have h2:=AN u (i:=i+1) (j:=j) () hj
 grind
theorem Mrg.nil (cs ds:Cs):Mrg cs ds 0 0 []:=#[List.Pairwise.nil,(fun x h=>by cases h),(fun k h=>()),(fun k h=>()),(fun x h=>by cases h),qAS _]
theorem Mrg.other {cs ds:Cs}{i p:Nat}{ts:List Rat}(g:Mrg cs ds i p ts) (up:Up ds) (hp:p<ds.length) (hi:∀x∈ts,x<tt cs i) (h:tt ds p<tt cs i):Mrg cs ds i (p+1) (ts++[tt ds p])/\∀x∈ts++[tt ds p],x<tt cs i:=by
 refine#[#[?_,fun x hx=>?_,fun k hk=>qAX _ (g.a k hk),fun k hk=>?_,fun x hx k k1 k2=>?_,by rw[qAn];have:=g.len;simp;omega],fun x hx=>?_]
 .rw[qBF]
  exact#[g.inc,qCC _ _,fun x hx y hy=>by rw[qAw.mp hy];exact g.lt x hx p (qAd _) hp]
 .rcases qAu.mp hx with hx|hx
  .rcases g.of x hx with z|⟨b,hb,e⟩
   .exact .inl z
   .exact .inr #[b,(),e]
  .exact .inr #[p,(),qAw.mp hx]
 .by_cases e:k=p
  .subst e;exact qAJ _ (qAw.mpr rfl)
  .exact qAX _ (g.b k ())
 .rcases qAu.mp hx with hx|hx
  .exact g.lt x hx k () k2
  .rw[qAw.mp hx];exact G8 up () k2
 .rcases qAu.mp hx with hx|hx
  .exact hi x hx
  .rw[qAw.mp hx];exact h
theorem Mrg.one {cs ds:Cs}{i p q:Nat}{ts:List Rat}(g:Mrg cs ds i p ts) (hpq:q=p\/(q=p+1/\p<ds.length/\tt ds p=tt cs i)) (hi:∀x∈ts,x<tt cs i) (hb:∀k,q<=k->k<ds.length->tt cs i<tt ds k):Mrg cs ds (i+1) q (ts++[tt cs i]):=by
 refine#[?_,fun x hx=>?_,fun k hk=>?_,fun k hk=>?_,fun x hx k k1 k2=>?_,?_]
 .rw[qBF]
  exact#[g.inc,qCC _ _,fun x hx y hy=>by rw[qAw.mp hy];exact hi x hx]
 .rcases qAu.mp hx with hx|hx
  .rcases g.of x hx with⟨a,ha,e⟩|⟨b,hb,e⟩
   .exact .inl #[a,(),e]
   .exact .inr #[b,(),e]
  .exact .inl #[i,(),qAw.mp hx]
 .by_cases e:k=i
  .subst e;exact qAJ _ (qAw.mpr rfl)
  .exact qAX _ (g.a k ())
 .by_cases e:k<p
  .exact qAX _ (g.b k e)
  .rcases hpq with z|⟨z,_,e2⟩
   .omega
   .have:k=p:=()
    subst this
    rw[e2]
    exact qAJ _ (qAw.mpr rfl)
 .rcases qAu.mp hx with hx|hx
  .exact g.lt x hx k () k2
  .rw[qAw.mp hx];exact hb k k1 k2
 .rw[qAn]
  have:=g.len
  simp
  omega
theorem B8 {ts:List Rat}{i:Nat}(h:i<ts.length):T ts i=ts[i]:=by
 unfold T
 rw[qAg,qAb h]
 rfl
theorem NW {ts:List Rat}{x:Rat}(h:x∈ts):∃i,i<ts.length/\T ts i=x:=by
 obtain⟨i,hi,e⟩:=qCb.mp h
 exact#[i,hi,by rw[B8 hi];exact e]
def rst (ds:Cs)(p:Nat):List Rat:=(ds.drop p).map (·.1)
theorem Ez {ds:Cs}{p j:Nat}(h:p+j<ds.length):(rst ds p)[j]? = some (tt ds (p+j)):=by
 unfold rst
 rw[qAh,qCj,qAb h]
 unfold tt
 rw[qAg,qAb h]
 rfl
theorem Ku {ds:Cs}{p:Nat}{x:Rat}(h:x∈rst ds p):∃k,p<=k/\k<ds.length/\x=tt ds k:=by
 obtain⟨j,hj,e⟩:=qCb.mp h
 have hj':p+j<ds.length:=by unfold rst at hj;rw[qAa,qAQ] at hj;omega
 have:=Ez hj'
 rw[qAb hj,e] at this
 exact#[p+j,(),hj',qAj this]
theorem Nt {ds:Cs}{p k:Nat}(h:p<=k) (hk:k<ds.length):tt ds k∈rst ds p:=by
 have:=Ez (ds:=ds) (p:=p) (j:=k-p) ()
 rw[show p+(k-p)=k from ()] at this
 exact qAo this
theorem Rm {cs ds:Cs}{p:Nat}{ts:List Rat}(o:Ord cs) (q:Ord ds) (g:Mrg cs ds cs.length p ts) (hp:p<=ds.length):Tms cs ds (ts++rst ds p):=by
 have inc:(ts++rst ds p).Pairwise (· < ·):=by
  rw[qBF]
  refine#[g.inc,?_,fun x hx y hy=>?_]
  .rw[qBM]
   intro i j hi hj hij
   have lr:(rst ds p).length=ds.length-p:=by unfold rst;rw[qAa,qAQ]
   have e1:=Ez (ds:=ds) (p:=p) (j:=i) ()
   have e2:=Ez (ds:=ds) (p:=p) (j:=j) ()
   rw[qAb hi] at e1
   rw[qAb hj] at e2
   rw[qAj e1,qAj e2]
   exact G8 q.up () ()
  .obtain⟨k,k1,k2,e⟩:=Ku hy
   rw[e]
   exact g.lt x hx k k1 k2
 have z:tt cs 0∈ts++rst ds p:=qAX _ (g.a 0 o.ne)
 have ne:0<(ts++rst ds p).length:=qB0 z
 have of:∀x∈ts++rst ds p,(∃k,k<cs.length/\x=tt cs k)\/∃k,k<ds.length/\x=tt ds k:=fun x hx=>by
  rcases qAu.mp hx with hx|hx
  .rcases g.of x hx with h|⟨b,hb,e⟩
   .exact .inl h
   .exact .inr #[b,(),e]
  .obtain⟨k,_,k2,e⟩:=Ku hx
   exact .inr #[k,k2,e]
 have up:∀i,i+1<(ts++rst ds p).length->T (ts++rst ds p) i<T (ts++rst ds p) (i+1):=fun i hi=>by
  rw[B8 (),B8 hi]
  exact qBM.mp inc i (i+1) () hi ()
 refine#[ne,?_,up,fun k hk=>NW (qAX _ (g.a k hk)),fun k hk=>?_,fun i hi=>?_]
 .obtain⟨i,hi,e⟩:=NW z
  rw[o.t0] at e
  have h1:=C9 up (i:=0) (j:=i) () hi
  rw[e] at h1
  have nn:0<=T (ts++rst ds p) 0:=by
   rw[B8 ne]
   rcases of _ (qA3 ne) with⟨k,hk,ek⟩|⟨k,hk,ek⟩
   .rw[ek];have:=AN o.up (i:=0) (j:=k) () hk;rw[o.t0] at this;exact this
   .rw[ek];have:=AN q.up (i:=0) (j:=k) () hk;rw[q.t0] at this;exact this
  grind
 .by_cases c:k<p
  .exact NW (qAX _ (g.b k c))
  .exact NW (qAJ _ (Nt () hk))
 .rw[B8 hi]
  exact of _ (qA3 hi)
theorem HJ {ds:Cs}{p:Int}(k:Nat) (hp:p=(k:Int)) (h:k<ds.length):atI ((rst ds 0).map qd) p=some (qd (tt ds k)):=by
 subst hp
 have lr:(rst ds 0).length=ds.length:=by unfold rst;rw[qAa,qAQ];omega
 rw[atI_nat (by rw[qAa,lr];exact h),qAh]
 have:=Ez (ds:=ds) (p:=0) (j:=k) ()
 rw[this,Nat.zero_add]
 rfl
theorem CP (ds:Cs)(p:Nat):(rst ds p).length=ds.length-p:=by unfold rst;rw[qAa,qAQ]
theorem N4 {ds:Cs}{p:Nat}(h:p<=ds.length):LA ((rst ds 0).map qd) (some (p:Int)) none=(rst ds p).map qd:=by
 unfold LA
 have lr:((rst ds 0).map qd).length=ds.length:=by rw[qAa,CP];omega
 rw[lr,HT.sIx_nat,HT.sIx_none,Nat.min_eq_left h]
 rw[qBZ (by rw[qAQ,lr];omega),<-qBH]
 congr 1
 unfold rst
 rw[<-qBH,List.drop_drop,Nat.zero_add]
def rw3 (cs:Cs)(m:Rat)(ds:Cs)(k:Rat)(t:Rat):D:=.tup [qd t,qd (val cs m t),qd (val ds k t)]
def gcs (cs:Cs)(m:Rat)(ds:Cs)(k:Rat)(ts:List Rat):Cs:=ts.map fun t=>(t,gap cs m ds k t)
theorem B6 {cs:Cs}{m:Rat}{ds:Cs}{k:Rat}{ts:List Rat}:(gcs cs m ds k ts).length=ts.length:=by unfold gcs;rw[qAa]
theorem Bm {cs:Cs}{m:Rat}{ds:Cs}{k:Rat}{ts:List Rat}{i:Nat}(h:i<ts.length):tt (gcs cs m ds k ts) i=T ts i/\vv (gcs cs m ds k ts) i=gap cs m ds k (T ts i):=by
 have e:(gcs cs m ds k ts).getD i (0,0)=(T ts i,gap cs m ds k (T ts i)):=by
  unfold gcs
  rw[qAg,qAh,qAb h,B8 h]
  rfl
 unfold tt vv
 rw[e]
 exact#[rfl,rfl]
theorem OV {ts:List Rat}{i:Nat}{t:Rat}(h:ts[i]? = some t):i<ts.length/\T ts i=t:=by
 obtain⟨h1,h2⟩:=qAf.mp h
 exact#[h1,by rw[B8 h1];exact h2]
theorem Cd {α:Type}{f:α->D}{xs:List α}{i:Nat}{x:D}(h:(xs.map f)[i]? = some x):∃a,xs[i]? = some a/\x=f a:=by
 rw[qAh] at h
 cases e:xs[i]? with
 |none=>rw[e] at h;cases h
 |some a=>rw[e] at h;exact#[a,rfl,(qAj h).symm]
theorem Gh {α:Type}(xs:List α) (f:α->D):(xs.map fun a=>some (f a)).filterMap id=xs.map f:=by
 rw[qBO]
 exact congrFun (qB5 (f:=f)) _
def IsL (h:Rat->Rat)(t v:Rat):Prop:=0<=v/\(v=0\/∃s,0<=s/\s<=t/\h s=v)/\∀s,0<=s->s<=t->h s<=v
theorem IsL.uniq {h:Rat->Rat}{t v w:Rat}(a:IsL h t v) (b:IsL h t w):v=w:=by
 have le:∀{v w:Rat},IsL h t v->IsL h t w->v<=w:=fun {v w} a b=>by
  rcases a.2.1 with e|⟨s,s0,st,e⟩
  .rw[e];exact b.1
  .rw[<-e];exact b.2.2 s s0 st
 exact qBz (le a b) (le b a)
theorem IsL.on {h:Rat->Rat}{T B G s t:Rat}(a:IsL h T B) (T0:0<=T) (hG:h T=G) (tT:T<=t) (lin:∀x,T<=x->x<=t->h x=G+s*(x-T)){v:Rat}(hv:v=B\/v=G+s*(t-T)) (h1:B<=v) (h2:G+s*(t-T)<=v):IsL h t v:=by
 have gB:G<=B:=by rw[<-hG];exact a.2.2 T T0 qAc
 refine#[qAY a.1 h1,?_,fun x x0 xt=>?_]
 .rcases hv with e|e
  .rcases a.2.1 with z|⟨y,y0,y1,ey⟩
   .exact .inl (e.trans z)
   .exact .inr #[y,y0,qAY y1 tT,ey.trans e.symm]
  .exact .inr #[t,qAY T0 tT,qAc,(lin t tT qAc).trans e.symm]
 .by_cases c:x<=T
  .exact qAY (a.2.2 x x0 c) h1
  .rw[lin x ⋯ xt]
   by_cases s0:0<=s
   .have:=qAC s0 (show 0<=t-x from ⋯)
    grind
   .have:=qAC (show 0<=-s from ⋯) (show 0<=x-T from ⋯)
    grind
structure Lft (h:Rat->Rat)(C:Cs)(T B M:Rat)(nx:Option Rat):Prop where
 o:Ord C
 lo:T<=tt C (C.length-1)
 hi:∀t,nx=some t->tt C (C.length-1)<t
 b:vv C (C.length-1)=B
 M0:0<=M
 v:∀t,0<=t->(∀u,nx=some u->t<=u)->IsL h t (val C M t)
 l:IsL h T B
theorem Lft.next {h:Rat->Rat}{C:Cs}{T B M u B':Rat}(a:Lft h C T B M (some u)) (hB:IsL h u B'):Ord (C++[(u,B')])/\∀(M' t:Rat),0<=t->t<=u->val (C++[(u,B')]) M' t=val C M t:=by
 have n:=a.o.ne
 have lt:=a.hi u rfl
 have t0:0<=tt C (C.length-1):=by
  have:=AN a.o.up (i:=0) (j:=C.length-1) () ()
  rw[a.o.t0] at this
  exact this
 have eB:B'=val C M u:=hB.uniq (a.v u ⋯ (fun w hw=>by cases hw;exact qAc))
 have ev:val C M u=vv C (C.length-1)+M*(u-tt C (C.length-1)):=Eo n (qAp lt)
 have mn:=qAC a.M0 (show 0<=u-tt C (C.length-1) from ⋯)
 have sl:(B'-vv C (C.length-1))/(u-tt C (C.length-1))=M:=by
  rw[eB,ev]
  have ne:u-tt C (C.length-1)≠0:=⋯
  generalize tt C (C.length-1)=X at ne
  generalize vv C (C.length-1)=Y
  grind
 refine#[a.o.snoc (c:=(u,B')) lt (by show _<=B';rw[eB,ev];grind),fun M' t t0 tu=>?_]
 rw[HK (c:=(u,B')) (M:=M) n sl]
 by_cases c:t<u
 .rw[if_pos c]
 .rw[if_neg c]
  have e:t=u:=⋯
  show B'+M'*(t-u)=_
  rw[e,eB]
  grind
structure Lf0 (h:Rat->Rat)(C:Cs)(T B:Rat):Prop where
 o:Ord C
 t:tt C (C.length-1)=T
 b:vv C (C.length-1)=B
 l:IsL h T B
 v:∀(M t:Rat),0<=t->t<=T->IsL h t (val C M t)
theorem Lf0.t0 {h:Rat->Rat}{C:Cs}{T B:Rat}(a:Lf0 h C T B):0<=T:=by
 have:=AN a.o.up (i:=0) (j:=C.length-1) () (by have:=a.o.ne;omega)
 rw[a.o.t0,a.t] at this
 exact this
theorem Lf0.go {h:Rat->Rat}{C:Cs}{T B G s M:Rat}{nx:Option Rat}(a:Lf0 h C T B) (hG:h T=G) (hnx:∀u,nx=some u->T<u) (lin:∀x,T<=x->(∀u,nx=some u->x<=u)->h x=G+s*(x-T)) (M0:0<=M)
 (val':∀x,T<=x->(∀u,nx=some u->x<=u)->(B+M*(x-T)=B\/B+M*(x-T)=G+s*(x-T))/\G+s*(x-T)<=B+M*(x-T)):Lft h C T B M nx:=by
 refine#[a.o,by rw[a.t];exact qAc,fun u hu=>by rw[a.t];exact hnx u hu,a.b,M0,fun t t0 ht=>?_,a.l]
 by_cases c:t<=T
 .exact a.v M t t0 c
 .have cT:T<=t:=⋯
  have e:val C M t=B+M*(t-T):=by rw[Eo a.o.ne (by rw[a.t];exact cT),a.t,a.b]
  rw[e]
  obtain⟨v1,v2⟩:=val' t cT ht
  have mn:=qAC M0 (show 0<=t-T from ⋯)
  exact a.l.on a.t0 hG cT (fun x x1 x2=>lin x x1 (fun u hu=>qAY x2 (ht u hu))) v1 ⋯ v2
theorem Lf0.flat {h:Rat->Rat}{C:Cs}{T B G s X:Rat}(a:Lf0 h C T B) (hG:h T=G) (hX:T<X) (lin:∀x,T<=x->x<=X->h x=G+s*(x-T)) (hB:G+s*(X-T)=B):Lf0 h (C++[(X,B)]) X B:=by
 have f:Lft h C T B 0 (some X):=a.go (s:=s) hG (fun u hu=>by cases hu;exact hX) (fun x x1 x2=>lin x x1 (x2 X rfl)) qAc (fun x x1 x2=>by
  have x2:=x2 X rfl
  have gB:G<=B:=by rw[<-hG];exact a.l.2.2 T a.t0 qAc
  refine#[.inl ⋯,?_]
  by_cases s0:0<=s
  .have:=qAC s0 (show 0<=X-x from ⋯)
   grind
  .have:=qAC (show 0<=-s from ⋯) (show 0<=x-T from ⋯)
   grind)
 have lX:IsL h X B:=by
  have:=f.v X (by have:=a.t0;grind) (fun w hw=>by cases hw;exact qAc)
  rw[Eo a.o.ne (by rw[a.t];exact qAp hX),a.t,a.b] at this
  have e:B+0*(X-T)=B:=⋯
  rw[e] at this
  exact this
 obtain⟨o,vs⟩:=f.next lX
 have ln:(C++[(X,B)]).length-1=C.length:=by rw[AR];omega
 exact#[o,by rw[ln,KR],by rw[ln,K8],lX,fun M t t0 tX=>by rw[vs M t t0 tX];exact f.v t t0 (fun w hw=>by cases hw;exact tX)]
theorem Lft.step {h:Rat->Rat}{C:Cs}{T B M u B':Rat}(a:Lft h C T B M (some u)) (hB:IsL h u B'):Lf0 h (C++[(u,B')]) u B':=by
 obtain⟨o,vs⟩:=a.next hB
 have ln:(C++[(u,B')]).length-1=C.length:=by rw[AR];omega
 exact#[o,by rw[ln,KR],by rw[ln,K8],hB,fun M t t0 tu=>by rw[vs M t t0 tu];exact a.v t t0 (fun w hw=>by cases hw;exact tu)]
def mx (a b:Rat):Rat:=if a<b then b else a
theorem Jx (a b:Rat):a<=mx a b/\b<=mx a b/\(mx a b=a\/mx a b=b):=by
 unfold mx
 split<;>grind
def Ab (h:Rat->Rat)(B s:Rat):Option Rat->Prop
 |some u=>B<h u
 |none=>0<s
theorem Lf0.turn {h:Rat->Rat}{C:Cs}{T B G s:Rat}{nx:Option Rat}(a:Lf0 h C T B) (hG:h T=G) (hnx:∀u,nx=some u->T<u) (lin:∀x,T<=x->(∀u,nx=some u->x<=u)->h x=G+s*(x-T)) :
 (¬G<B->Lft h C T B (mx 0 s) nx) /\
 (G<B->¬Ab h B s nx->Lft h C T B 0 nx) /\
 (G<B->Ab h B s nx->0<s/\Lft h (C++[(T+(B-G)/s,B)]) T B s nx):=by
 have gB:G<=B:=by rw[<-hG];exact a.l.2.2 T a.t0 qAc
 have m0:=Jx 0 s
 refine#[fun c=>?_,fun c1 c2=>?_,fun c1 c2=>?_]
 .have e:G=B:=⋯
  refine a.go hG hnx lin m0.1 (fun x x1 x2=>#[?_,?_])
  .rcases m0.2.2 with z|z
   .rw[z];exact .inl ⋯
   .rw[z,e];exact .inr rfl
  .have:=qAC (show 0<=mx 0 s-s from ⋯) (show 0<=x-T from ⋯)
   grind
 .refine a.go hG hnx lin qAc (fun x x1 x2=>#[.inl ⋯,?_])
  cases nx with
  |none =>
   have sn:¬0<s:=c2
   have:=qAC (show 0<=-s from ⋯) (show 0<=x-T from ⋯)
   grind
  |some u =>
   have hu:¬B<h u:=c2
   have tu:=hnx u rfl
   have xu:=x2 u rfl
   have e:=lin u (qAp tu) (fun w hw=>by cases hw;exact qAc)
   by_cases s0:0<=s
   .have:=qAC s0 (show 0<=u-x from ⋯)
    grind
   .have:=qAC (show 0<=-s from ⋯) (show 0<=x-T from ⋯)
    grind
 .have s0:0<s:=by
   cases nx with
   |none=>exact c2
   |some u =>
    have hu:B<h u:=c2
    have tu:=hnx u rfl
    have e:=lin u (qAp tu) (fun w hw=>by cases hw;exact qAc)
    by_cases z:0<s
    .exact z
    .have:=qAC (show 0<=-s from ⋯) (show 0<=u-T from ⋯)
     grind
  have ne:s≠0:=⋯
  have d:=NC (show 0<B-G from ⋯) s0
  have eX:s*(T+(B-G)/s-T)=B-G:=⋯
  have inX:∀u,nx=some u->T+(B-G)/s<u:=fun u hu=>by
   subst hu
   have hu:B<h u:=c2
   have tu:=hnx u rfl
   have e:=lin u (qAp tu) (fun w hw=>by cases hw;exact qAc)
   by_cases z:T+(B-G)/s<u
   .exact z
   .have:=qAC (qAp s0) (show 0<=T+(B-G)/s-u from ⋯)
    grind
  have f:=a.flat (X:=T+(B-G)/s) (s:=s) hG ⋯ (fun x x1 x2=>lin x x1 (fun u hu=>qAY x2 (qAp (inX u hu)))) (by rw[eX];grind)
  have hX:h (T+(B-G)/s)=B:=by rw[lin _ ⋯ (fun u hu=>qAp (inX u hu)),eX];grind
  have g:=f.go (s:=s) (M:=s) (nx:=nx) hX inX (fun x x1 x2=>by rw[lin x ⋯ x2];grind) (qAp s0) (fun x x1 x2=>#[.inr rfl,qAc])
  exact#[s0,g.o,by have:=g.lo;grind,g.hi,g.b,g.M0,g.v,a.l]
theorem IsL.nxt {h:Rat->Rat}{T B G s u:Rat}(a:IsL h T B) (T0:0<=T) (hG:h T=G) (tu:T<=u) (lin:∀x,T<=x->x<=u->h x=G+s*(x-T)):IsL h u (mx B (h u)):=by
 have e:=lin u tu qAc
 obtain⟨m1,m2,m3⟩:=Jx B (h u)
 refine a.on T0 hG tu lin ?_ m1 (by rw[<-e];exact m2)
 rcases m3 with z|z
 .exact .inl z
 .exact .inr (z.trans e)
theorem Gs {cs ds:Cs}{ts:List Rat}{m k:Rat}(o:Ord cs) (q:Ord ds) (t:Tms cs ds ts){i:Nat}(hi:i<ts.length) :
 (∀x,T ts i<=x->(i+1<ts.length->x<=T ts (i+1))->gap cs m ds k x=gap cs m ds k (T ts i)+slp (gcs cs m ds k ts) (m-k) i*(x-T ts i)) /\
  slp (gcs cs m ds k ts) (m-k) i=slp cs m (plc cs (T ts i) cs.length)-slp ds k (plc ds (T ts i) ds.length):=by
 have main:∀x,T ts i<=x->(i+1<ts.length->x<=T ts (i+1))->gap cs m ds k x=gap cs m ds k (T ts i)+(slp cs m (plc cs (T ts i) cs.length)-slp ds k (plc ds (T ts i) ds.length))*(x-T ts i):=fun x h1 h2=>by
  unfold gap
  rw[KS (m:=m) o t hi h1 h2,KS (m:=k) q t.swap hi h1 h2]
  grind
 have e:slp (gcs cs m ds k ts) (m-k) i=slp cs m (plc cs (T ts i) cs.length)-slp ds k (plc ds (T ts i) ds.length):=by
  by_cases c:i+1<ts.length
  .rw[CK (by rw[B6];exact c),(Bm hi).1,(Bm hi).2,(Bm c).1,(Bm c).2]
   have u:=t.up i c
   have g:=main (T ts (i+1)) (qAp u) (fun _=>qAc)
   exact Ko ⋯ ⋯
  .rw[AE (by rw[B6];exact c)]
   have e:i=ts.length-1:=()
   rw[e,Ki o t,Ki q t.swap]
 exact#[fun x h1 h2=>by rw[e];exact main x h1 h2,e]
theorem RK {cs:Cs}{k:Nat}(h:k<cs.length):tt cs k=cs[k].1/\vv cs k=cs[k].2:=by
 unfold tt vv
 rw[qAg,qAb h]
 exact#[rfl,rfl]
theorem Wq.le_iff {k n:Nat}{a b c d:Int}{p q:Rat}(h:Wq k a b p) (g:Wq n c d q):a*d<=c*b ↔ p<=q:=by
 have:=g.lt_iff h
 constructor
 .intro z
  exact qAR.mp (fun y=>absurd (this.mpr y) ())
 .intro z
  exact Int.not_lt.mp (fun y=>absurd (this.mp y) (qAR.mpr z))
def cD (f:Cs×Rat):D:=crv f.1 f.2
theorem R1 {cs:Cs}{m:Rat}:∀k,k<cs.length->∀i,i<(kp cs m k).length->∃j,j<cs.length/\tt (kp cs m k) i=tt cs j
 |0,hk=>fun i hi=>by
  have:i=0:=by simp[kp] at hi;omega
  subst this
  exact#[0,hk,rfl]
 |k+1,hk=>by
  have ih:=R1 (cs:=cs) (m:=m) k ()
  by_cases e:slp cs m k=slp cs m (k+1)
  .rw[Gu e];exact ih
  .rw[ME e]
   intro i hi
   by_cases c:i<(kp cs m k).length
   .rw[Jh c];exact ih i c
   .rw[AR] at hi
    rw[show i=(kp cs m k).length from (),KR]
    exact#[k+1,hk,rfl]
end CH
namespace L3
open PySem PySem.Spec PyProof.Rows L2
section
variable {X:Cx}
end
end L3
namespace CH
open PySem L2 L3
structure LS (a b c:Nat)(cs:Cs)(m:Rat):Prop where
 tm:∀i,i<cs.length->Sz a (tt cs i)
 sl:∀t,0<=t->Sz b (sat cs m t)
 ic:∀t,0<=t->Sz c (val cs m t-sat cs m t*t)
theorem LS.va {a b c n:Nat}{cs:Cs}{m t:Rat}(z:LS a b c cs m) (t0:0<=t) (ht:Sz n t):Sz (b+n+c+1) (val cs m t):=by
 have h:=(z.ic t t0).add ((z.sl t t0).mul ht)
 rw[show val cs m t-sat cs m t*t+sat cs m t*t=val cs m t from ⋯] at h
 exact h.mono ()
theorem LS.m {a b c:Nat}{cs:Cs}{m:Rat}(z:LS a b c cs m) (o:Ord cs):Sz b m:=by
 have n:=o.ne
 have t0:=AN o.up (i:=0) (j:=cs.length-1) () ()
 rw[o.t0] at t0
 have:=z.sl _ t0
 rw[JV n qAc] at this
 exact this
theorem LS.szk {a b c n:Nat}{cs:Cs}{m:Rat}(z:LS a b c cs m) (o:Ord cs) (hl:cs.length<=1000000) (h:a+b+c+1<=n):SzK n cs m:=by
 refine#[hl,fun i hi=>?_,(z.m o).mono ()]
 have t0:=AN o.up (i:=0) (j:=i) () hi
 rw[o.t0] at t0
 have:=z.va t0 (z.tm i hi)
 rw[DK o hi] at this
 exact#[(z.tm i hi).mono (),this.mono ()]
theorem LS.mono {a b c a' b' c':Nat}{cs:Cs}{m:Rat}(z:LS a b c cs m) (h1:a<=a') (h2:b<=b') (h3:c<=c'):LS a' b' c' cs m :=
 #[fun i hi=>(z.tm i hi).mono h1,fun t t0=>(z.sl t t0).mono h2,fun t t0=>(z.ic t t0).mono h3]
theorem LS.kept {a b c:Nat}{cs:Cs}{m:Rat}(z:LS a b c cs m) (o:Ord cs):LS a b c (kp cs m (cs.length-1)) m:=by
 have n:=o.ne
 refine#[fun i hi=>?_,fun t t0=>by rw[(Ii o t).2];exact z.sl t t0,fun t t0=>by rw[(Ii o t).1,(Ii o t).2];exact z.ic t t0]
 obtain⟨j,hj,e⟩:=R1 (cs:=cs) (m:=m) _ () i hi
 rw[e];exact z.tm j hj
theorem T_l {us:List Rat}{a:Rat}{i:Nat}(h:i<us.length):T (us++[a]) i=T us i:=by
 unfold T
 rw[qAg,qAI h,qAg]
theorem T_r {us:List Rat}{a:Rat}:T (us++[a]) us.length=a:=by
 unfold T
 rw[qAg,qAK (qAd _),qCy]
 rfl
theorem O5 {f0 g0 m k a:Rat}(h:∀x,a<=x->f0+m*(x-a)<=g0+k*(x-a)):m<=k:=by
 refine qAR.mp fun c=>?_
 have h0:=h a qAc
 have d0:0<m-k:=⋯
 have q0:0<=(g0-f0)/(m-k):=by
  rw[Rat.div_def]
  exact qAC ⋯ (qAp (Rat.inv_pos.mpr d0))
 have:=h (a+(g0-f0)/(m-k)+1) ⋯
 have e:(m-k)*((g0-f0)/(m-k))=g0-f0:=by
  have:m-k≠0:=⋯
  grind
 generalize (g0-f0)/(m-k)=y at *
 grind
section
variable {op:Rat->Rat->Rat}{cs ds:Cs}{m k:Rat}{us:List Rat}
end
def Ln (p g:Nat)(C:Cs)(M:Rat):Prop:=∀i,i<C.length->Sz p (slp C M i)/\Sz g (vv C i-slp C M i*tt C i)
theorem Ln.one {p g:Nat}{c:Rat×Rat}{M:Rat}(h1:Sz p M) (h2:Sz g (c.2-M*c.1)):Ln p g [c] M:=fun i hi=>by
 have:i=0:=by have:i<1:=hi;omega
 subst this
 rw[AE (by show ¬0+1<1;decide)]
 exact#[h1,h2]
theorem Ln.snoc {p g:Nat}{C:Cs}{c:Rat×Rat}{M M':Rat}(a:Ln p g C M) (h:(c.2-vv C (C.length-1))/(c.1-tt C (C.length-1))=M) (h1:Sz p M') (h2:Sz g (c.2-M'*c.1)):Ln p g (C++[c]) M':=fun i hi=>by
 rw[AR] at hi
 by_cases e:i<C.length
 .rw[D7 e h,Jh e,JT e]
  exact a i e
 .have:i=C.length:=()
  subst this
  rw[F0,KR,K8]
  exact#[h1,h2]
theorem Lft.slope {h:Rat->Rat}{C:Cs}{T B M u B':Rat}(a:Lft h C T B M (some u)) (hB:IsL h u B'):(B'-vv C (C.length-1))/(u-tt C (C.length-1))=M:=by
 have n:=a.o.ne
 have lt:=a.hi u rfl
 have t0:0<=tt C (C.length-1):=by
  have:=AN a.o.up (i:=0) (j:=C.length-1) () ()
  rw[a.o.t0] at this
  exact this
 have eB:B'=val C M u:=hB.uniq (a.v u ⋯ (fun w hw=>by cases hw;exact qAc))
 have ev:val C M u=vv C (C.length-1)+M*(u-tt C (C.length-1)):=Eo n (qAp lt)
 rw[eB,ev]
 have ne:u-tt C (C.length-1)≠0:=⋯
 generalize tt C (C.length-1)=X at ne
 generalize vv C (C.length-1)=Y
 grind
theorem Ln.ls {a p g:Nat}{C:Cs}{M:Rat}(n:Ln p g C M) (o:Ord C) (ht:∀i,i<C.length->Sz a (tt C i)):LS a p g C M:=by
 refine#[ht,fun t t0=>?_,fun t t0=>?_]
 .exact(n _ (FD o t0).lt).1
 .have on:=FD o t0
  have ev:val C M t=vv C (plc C t C.length)+slp C M (plc C t C.length)*(t-tt C (plc C t C.length)):=rfl
  have es:sat C M t=slp C M (plc C t C.length):=rfl
  generalize plc C t C.length=j at on ev es
  have z:=(n j on.lt).2
  rw[ev,es]
  rw[show vv C j+slp C M j*(t-tt C j)-slp C M j*t=vv C j-slp C M j*tt C j from ⋯]
  exact z
section
variable {a b c a2 b2 c2:Nat}{cs ds:Cs}{m k:Rat}
theorem J7 (z1:LS a b c cs m)(z2:LS a2 b2 c2 ds k){t:Rat}(t0:0<=t):Sz (c+c2+1) (gap cs m ds k t-(sat cs m t-sat ds k t)*t):=by
 have q:=(z1.ic t t0).sub (z2.ic t t0)
 have e:(val cs m t-sat cs m t*t)-(val ds k t-sat ds k t*t)=gap cs m ds k t-(sat cs m t-sat ds k t)*t:=by unfold gap;grind
 rw[e] at q
 exact q
theorem SA (z1:LS a b c cs m)(z2:LS a2 b2 c2 ds k){t:Rat}{n:Nat}(t0:0<=t) (ht:Sz n t):Sz (b+b2+c+c2+n+3) (gap cs m ds k t):=by
 have q:=(J7 z1 z2 t0).add (((z1.sl t t0).sub (z2.sl t t0)).mul ht)
 rw[show gap cs m ds k t-(sat cs m t-sat ds k t)*t+(sat cs m t-sat ds k t)*t=gap cs m ds k t from ⋯] at q
 exact q.mono ()
theorem Nq (z1:LS a b c cs m)(z2:LS a2 b2 c2 ds k){t B:Rat}{n:Nat}(t0:0<=t) (hB:Sz n B) (s0:sat cs m t-sat ds k t≠0):Sz (n+(b+b2+c+c2+3)) (t+(B-gap cs m ds k t)/(sat cs m t-sat ds k t)):=by
 have q:=(hB.sub (J7 z1 z2 t0)).div ((z1.sl t t0).sub (z2.sl t t0)) s0
 have e:t+(B-gap cs m ds k t)/(sat cs m t-sat ds k t)=(B-(gap cs m ds k t-(sat cs m t-sat ds k t)*t))/(sat cs m t-sat ds k t):=by
  generalize sat cs m t-sat ds k t=s at *
  generalize gap cs m ds k t=G at *
  grind
 rw[e]
 exact q.mono ()
end
theorem IsL.mono' {h:Rat->Rat}{s t x y:Rat}(a:IsL h s x) (b:IsL h t y) (st:s<=t):x<=y:=by
 rcases a.2.1 with e|⟨u,u0,u1,e⟩
 .rw[e];exact b.1
 .rw[<-e];exact b.2.2 u u0 (qAY u1 st)
theorem KZ {C:Cs}{x y:Rat}{p g:Nat}(h:∀j,j<C.length->Sz p (tt C j)/\Sz g (vv C j)) (hx:Sz p x) (hy:Sz g y):∀j,j<(C++[(x,y)]).length->Sz p (tt (C++[(x,y)]) j)/\Sz g (vv (C++[(x,y)]) j):=fun j hj=>by
 rw[AR] at hj
 by_cases e:j<C.length
 .rw[Jh e,JT e];exact h j e
 .have:j=C.length:=()
  subst this
  rw[KR,K8]
  exact#[hx,hy]
end CH
namespace L3
open PySem PySem.Spec PyProof.Rows L2
section
variable {X:L2.Cx}{e1 e2:Expr}{ti te:TE3}{pos:Pos}
def Nl:V->List V->Hp->VK->Prop:=fun x vs H Q=>∃l xs k y,x=.ref l/\vs=[.int k,y]/\H l=some (.lst xs)/\0<=k/\k<=(xs.length:Int)/\xs.length<16000000/\Q .non (upd H l (.lst (xs.take k.toNat++y::xs.drop k.toNat)))
theorem L9:MtM X "list.insert" Nl:=by
 intro pins s σ H x vs v us Q I rx rv h
 obtain⟨l,xs,k,y,rfl,rfl,hH,k0,k1,hz,q⟩:=h
 cases rx
 obtain⟨u1,u2,rfl,r1,r2⟩:=rv.two
 obtain⟨t,rfl⟩:=r1
 obtain⟨z,its,n,r,hl,e⟩:=I.lstM hH
 have sz:(16000000:Nat)<sizeLine:=∅
 have fits:¬(!Builtin.List.listFitsIndex k)=true:=by
  unfold Builtin.List.listFitsIndex
  simp only[Bool.not_eq_true',Bool.not_eq_false,qA2,decide_eq_true_eq]
  omega
 refine call_meets F.slot_list_insert #[_,e,rfl] F.entry_list_insert (F.args_list_insert_3 _ _ _) (AutoListH.list_insert_list_int_val_1 l its.toArray n k t u2 fits (by rw[qAs];omega)) #[e,?_]
 refine#[.non,_,I.lset (its':=its.take k.toNat++u2::its.drop k.toNat) hH e ?_ ((r.take _).append (.cons r2 (r.drop _))) ?_,rfl,q]
 .have hk:(if k<0 then (k+((its.toArray.size:Nat):Int)).toNat else min k.toNat its.toArray.size)=k.toNat:=by
   rw[if_neg (),qAs]
   omega
  simp only[hk]
  apply Array.toList_inj.mp
  simp[List.extract_eq_take_drop]
  rw[qBZ (by rw[qAQ];exact qAd _)]
 .rw[qAn,qAU,qAT,qAQ]
  omega
def UM (i:Nat)(ti te:TE3):TS3:=fun D3 τ=>match τ[i]? with
 |some (some (.l xs))=>ti τ fun s=>dd s fun k=>match k with
  |.int n=>te τ fun s2=>dd s2.arg fun d=>0<=n/\n<=(xs.length:Int)/\xs.length<16000000/\D3.nx (τ.set i (some (.l (xs.take n.toNat++d::xs.drop n.toNat))))
  |_=>False
 |_=>False
theorem Iss.ins {K:W.Frag}{H:Hp}{vs:List V}{xs:List D}{v:V}{x:D}(h:Iss K H vs xs) (j:Nat) (hx:Is K H v x):Iss K H (vs.take j++v::vs.drop j) (xs.take j++x::xs.drop j):=by
 have ht:Iss K H (vs.take j) (xs.take j):=by
  refine#[by simp[h.1],fun i w y h1 h2=>?_]
  rw[List.getElem?_take] at h1 h2
  by_cases c:i<j
  .rw[if_pos c] at h1 h2
   exact h.2 i w y h1 h2
  .rw[if_neg c] at h1
   cases h1
 have hd:Iss K H (v::vs.drop j) (x::xs.drop j):=by
  refine#[by simp[h.1],fun i w y h1 h2=>?_]
  cases i with
  |zero =>
   simp only[List.getElem?_cons_zero,Option.some.injEq] at h1 h2
   subst h1 h2
   exact hx
  |succ i =>
   simp only[List.getElem?_cons_succ,qCj] at h1 h2
   exact h.2 _ w y h1 h2
 exact ht.append hd
theorem Ti {i:Nat}{o:Expr}{apos cpos:Pos}(h:PS X (.Expr (.Call (.Attribute o "insert" apos) [e1,e2] [] cpos) pos) (Jn (tBM X.K "list" Nl (Dd i) (AY (FE X ti) (AY (FE X te) GA))))) :
 PS3 X (.Expr (.Call (.Attribute o "insert" apos) [e1,e2] [] cpos) pos) (UM i ti te):=#[BK h fun D2 σ H hh=>by
 obtain⟨B,z,τ,D3,r,ht,c⟩:=hh
 unfold UM at ht
 split at ht
 .rename_i xs hs
  obtain⟨v,h1,a,vs,rfl,h2,h3⟩:=r.val i _ hs
  refine#[.ref a,h1,.inl #[rfl,vs,SqL.of h2],B,_,τ,_,r,ht,fun s v H1 x1 i1 f1 h=>?_]
  obtain⟨k,rfl,h9⟩:=C0 h
  split at h9
  .rename_i n
   have ev:v=.int n:=Is.int_inv i1
   subst ev
   refine#[B,_,τ,_,r.mono x1,h9,fun s2 v2 H2 x2 i2 f2 h'=>?_]
   obtain⟨d,hd,h4,h5,h6,h7⟩:=C0 h'
   obtain⟨z',x',i''⟩:=DG x2 i2 f2
   rw[hd] at i''
   have q2:=x2.hh _ _ (x1.hh _ _ h2)
   exact#[a,vs,n,v2,rfl,rfl,q2,h4,by rw[h3.1];exact h5,by rw[h3.1];exact h6,c.nx _ _ _ (((r.mono x1).mono x').put hs h1 q2 (((h3.mono x1.zz).mono x'.zz).ins n.toNat i'')) h7]
  .exact h9.elim
 .exact ht.elim]
end
end L3
namespace CH
open PySem L2 L3
section
variable {a b c a2 b2 c2:Nat}{cs ds:Cs}{m k:Rat}{ts:List Rat}
theorem Po (o:Ord cs)(p:Ord ds)(t:Tms cs ds ts)(inc:∀x y,0<=x->x<=y->gap cs m ds k x<=gap cs m ds k y)(g0:0<=gap cs m ds k 0):Ord (gcs cs m ds k ts):=by
 have n:=t.ne
 refine#[by rw[B6];exact n,by rw[(Bm n).1];exact t.t0,by rw[(Bm n).2,t.t0];exact g0,fun i hi=>?_,fun i hi=>?_]
 .rw[B6] at hi
  rw[(Bm (show i<ts.length from ())).1,(Bm hi).1];exact t.up i hi
 .rw[B6] at hi
  have i0:i<ts.length:=()
  rw[(Bm i0).2,(Bm hi).2]
  exact inc _ _ (K5 t i0) (qAp (t.up i hi))
theorem OC (o:Ord cs)(p:Ord ds)(t:Tms cs ds ts)(inc:∀x y,0<=x->x<=y->gap cs m ds k x<=gap cs m ds k y):0<=m-k:=by
 have n:=t.ne
 have hi:ts.length-1<ts.length:=()
 obtain⟨l1,l2⟩:=Gs (m:=m) (k:=k) o p t hi
 rw[AE (by rw[B6];omega)] at l1
 have t0:=K5 t hi
 have e:=l1 (T ts (ts.length-1)+1) ⋯ (fun z=>absurd z ())
 have:=inc (T ts (ts.length-1)) (T ts (ts.length-1)+1) t0 ⋯
 grind
theorem QL (o:Ord cs)(p:Ord ds)(t:Tms cs ds ts)(O:Ord (gcs cs m ds k ts)){x:Rat}(x0:0<=x):val (gcs cs m ds k ts) (m-k) x=gap cs m ds k x:=by
 obtain⟨i,hi,h1,h2⟩:=N5 t.ne t.t0 x0
 have on:On (gcs cs m ds k ts) i x:=#[by rw[B6];exact hi,by rw[(Bm hi).1];exact h1,fun z=>by rw[B6] at z;rw[(Bm z).1];exact h2 z]
 rw[Bu O.up on,(Bm hi).1,(Bm hi).2,(Gs (m:=m) (k:=k) o p t hi).1 x h1 h2]
theorem Rv (o:Ord cs)(p:Ord ds)(t:Tms cs ds ts)(O:Ord (gcs cs m ds k ts))(z1:LS a b c cs m)(z2:LS a2 b2 c2 ds k){n:Nat}(h1:a<=n) (h2:a2<=n):LS n (b+b2+1) (c+c2+1) (gcs cs m ds k ts) (m-k):=by
 refine Ln.ls (fun i hi=>?_) O (fun i hi=>?_)
 .rw[B6] at hi
  have t0:=K5 t hi
  have es:slp (gcs cs m ds k ts) (m-k) i=sat cs m (T ts i)-sat ds k (T ts i):=(Gs (m:=m) (k:=k) o p t hi).2
  rw[es,(Bm hi).1,(Bm hi).2]
  exact#[(z1.sl _ t0).sub (z2.sl _ t0),J7 z1 z2 t0]
 .rw[B6] at hi
  rw[(Bm hi).1]
  rcases t.of i hi with⟨j,hj,e⟩|⟨j,hj,e⟩
  .rw[e];exact(z1.tm j hj).mono h1
  .rw[e];exact(z2.tm j hj).mono h2
end
theorem Oe {C A L:Rat->Rat}(cm:∀x y,0<=x->x<=y->C x<=C y) (am:∀x y,0<=x->x<=y->A x<=A y) (hl:∀t,0<=t->IsL (fun x=>C x-A x) t (L t)){x y:Rat}(x0:0<=x) (xy:x<=y):C x-L x<=C y-L y:=by
 have y0:=qAY x0 xy
 have hx:=hl x x0
 have hy:=hl y y0
 have c1:=cm x y x0 xy
 rcases hy.2.1 with e|⟨s,s0,s1,e⟩
 .have:=hx.1
  grind
 .have e:C s-A s=L y:=e
  by_cases c:s<=x
  .have h:=hx.2.2 s s0 c
   have h:C s-A s<=L x:=h
   grind
  .have h:=hx.2.2 x x0 qAc
   have h:C x-A x<=L x:=h
   have a1:=am x s x0 ⋯
   have c2:=cm s y s0 s1
   grind
theorem LF {C A L:Rat->Rat}(c0:0<=C 0) (a0:0<=A 0) (hl:IsL (fun x=>C x-A x) 0 (L 0)):0<=C 0-L 0:=by
 rcases hl.2.1 with e|⟨s,s0,s1,e⟩
 .grind
 .have e:C s-A s=L 0:=e
  have:s=0:=⋯
  subst this
  grind
structure Tm1 (cs:Cs)(ts:List Rat):Prop where
 ne:0<ts.length
 t0:T ts 0=0
 up:∀i,i+1<ts.length->T ts i<T ts (i+1)
 a:∀k,k<cs.length->∃i,i<ts.length/\T ts i=tt cs k
theorem Tm1.nn {cs:Cs}{ts:List Rat}(t:Tm1 cs ts){i:Nat}(h:i<ts.length):0<=T ts i:=by
 have:=C9 t.up (i:=0) (j:=i) () h
 rw[t.t0] at this
 exact this
theorem Tm1.on {cs:Cs}{ts:List Rat}(o:Ord cs) (t:Tm1 cs ts){i:Nat}(hi:i<ts.length){x:Rat}(h1:T ts i<=x) (h2:i+1<ts.length->x<=T ts (i+1)):On cs (plc cs (T ts i) cs.length) x:=by
 have on:=FD o (t.nn hi)
 obtain⟨_,p2,p3⟩:=CG (cs:=cs) (t:=T ts i) (by rw[o.t0];exact t.nn hi) cs.length o.ne
 refine#[on.lt,by have:=on.lo;grind,fun c=>?_]
 have lt:=p3 _ (qBs _) c
 obtain⟨j,hj,ej⟩:=t.a _ c
 have ij:i<j:=by
  by_cases z:i<j
  .exact z
  .have:=C9 t.up (i:=j) (j:=i) () hi
   rw[ej] at this
   grind
 have:=h2 ()
 have h3:=C9 t.up (i:=i+1) (j:=j) () hj
 rw[ej] at h3
 grind
theorem Tm1.line {cs:Cs}{ts:List Rat}{m:Rat}(o:Ord cs) (t:Tm1 cs ts){i:Nat}(hi:i<ts.length){x:Rat}(h1:T ts i<=x) (h2:i+1<ts.length->x<=T ts (i+1)) :
 val cs m x=val cs m (T ts i)+sat cs m (T ts i)*(x-T ts i):=by
 rw[Bu o.up (t.on o hi h1 h2),Bu o.up (t.on o hi qAc (fun c=>qAp (t.up i c)))]
 show _=vv cs _+_+slp cs m (plc cs (T ts i) cs.length)*(x-T ts i)
 grind
def Asc (ts:List Rat):Prop:=ts.Pairwise (· < ·)
theorem Asc.T {ts:List Rat}(a:Asc ts):∀i,i+1<ts.length->T ts i<T ts (i+1):=fun i hi=>by
 rw[B8 (show i<ts.length from ()),B8 hi]
 exact qBM.mp a i (i+1) () hi ()
theorem Asc.ins {ts:List Rat}{x:Rat}{k:Nat}(a:Asc ts) (h1:∀i (hi:i<ts.length),i<k->ts[i]<x) (h2:∀i (hi:i<ts.length),k<=i->x<ts[i]):Asc (ts.take k++x::ts.drop k):=by
 refine qBF.mpr #[List.Pairwise.sublist (List.take_sublist k ts) a,List.pairwise_cons.mpr #[fun y hy=>?_,List.Pairwise.sublist (List.drop_sublist k ts) a],fun y hy z hz=>?_]
 .obtain⟨i,hi,rfl⟩:=qBj hy
  rw[List.getElem_drop]
  exact h2 _ _ ()
 .obtain⟨i,hi,rfl⟩:=qBj hy
  rw[List.getElem_take]
  have hk:i<k:=by rw[qAT] at hi;omega
  have hl:i<ts.length:=by rw[qAT] at hi;omega
  have l1:=h1 i hl hk
  rcases qAk.mp hz with rfl|hz
  .exact l1
  .obtain⟨j,hj,rfl⟩:=qBj hz
   rw[List.getElem_drop]
   have l2:=h2 (k+j) (by rw[qAQ] at hj;omega) ()
   grind
theorem Bs {ts:List Rat}{x y:Rat}{k:Nat}:y∈ts.take k++x::ts.drop k ↔ y=x\/y∈ts:=by
 constructor
 .intro h
  rcases qAu.mp h with h|h
  .exact .inr (List.mem_of_mem_take h)
  .rcases qAk.mp h with h|h
   .exact .inl h
   .exact .inr (List.mem_of_mem_drop h)
 .rintro (h|h)
  .exact qAu.mpr (.inr (qAk.mpr (.inl h)))
  .rw[<-qB3 k ts] at h
   rcases qAu.mp h with h|h
   .exact qAu.mpr (.inl h)
   .exact qAu.mpr (.inr (qAk.mpr (.inr h)))
structure TmA (fs:List (Cs×Rat))(ts:List Rat):Prop where
 asc:Asc ts
 of:∀t∈ts,∃f∈fs,∃k,k<f.1.length/\t=tt f.1 k
 all:∀f∈fs,∀k,k<f.1.length->tt f.1 k∈ts
theorem TmA.one {fs:List (Cs×Rat)}{ts:List Rat}(h:TmA fs ts) (ho:∀f∈fs,Ord f.1){f:Cs×Rat}(hf:f∈fs):Tm1 f.1 ts:=by
 have o:=ho f hf
 have m0:=h.all f hf 0 o.ne
 rw[o.t0] at m0
 obtain⟨j,hj,ej⟩:=qBj m0
 have ne:0<ts.length:=()
 have nn:0<=T ts 0:=by
  obtain⟨g,hg,k,hk,e⟩:=h.of (T ts 0) (by rw[B8 ne];exact qA3 ne)
  rw[e]
  have:=AN (ho g hg).up (i:=0) (j:=k) () hk
  rw[(ho g hg).t0] at this
  exact this
 have le:=C9 h.asc.T (i:=0) (j:=j) () hj
 rw[B8 hj,ej] at le
 refine#[ne,⋯,h.asc.T,fun k hk=>?_]
 obtain⟨i,hi,e⟩:=qBj (h.all f hf k hk)
 exact#[i,hi,by rw[B8 hi];exact e]
theorem NV {h L:Rat->Rat}{p q r s:Rat}(p0:0<=p) (pq:p<q) (hl:∀t,0<=t->IsL h t (L t)) (hh:∀x,p<=x->x<=q->h x=h p+s*(x-p)) (hL:∀x,p<=x->x<=q->L x=L p+r*(x-p)) (ne:L p≠L q):L p=h p/\L q=h q:=by
 have q0:0<=q:=⋯
 have le:L p<=L q:=(hl p p0).mono' (hl q q0) (qAp pq)
 have eq:=hL q (qAp pq) qAc
 have r0:0<r:=by
  refine qBT.mp fun z=>?_
  have:=qAC (show 0<=-r from ⋯) (show 0<=q-p from ⋯)
  grind
 have key:∀x,p<x->x<=q->h x=L x:=fun x px xq=>by
  have x0:0<=x:=⋯
  have ex:=hL x (qAp px) xq
  have pos:=qBc r0 (show 0<x-p from ⋯)
  have Lp0:=(hl p p0).1
  rcases(hl x x0).2.1 with e|⟨u,u0,u1,e⟩
  .grind
  .by_cases c:u<=p
   .have:=(hl p p0).2.2 u u0 c
    grind
   .have eu:=hL u ⋯ (qAY u1 xq)
    have hu:=(hl u u0).2.2 u u0 qAc
    have z:u=x:=by
     by_cases z:u=x
     .exact z
     .have:=qBc r0 (show 0<x-u from ⋯)
      grind
    rw[<-z]
    rw[z] at e ⊢
    exact e
 have k1:=key q pq qAc
 have k2:=key ((p+q)/2) ⋯ ⋯
 have a1:=hh q (qAp pq) qAc
 have a2:=hh ((p+q)/2) ⋯ ⋯
 have b2:=hL ((p+q)/2) ⋯ ⋯
 have e1:s*((p+q)/2-p)=s*(q-p)/2:=⋯
 have e2:r*((p+q)/2-p)=r*(q-p)/2:=⋯
 rw[e1] at a2
 rw[e2] at b2
 refine#[?_,k1.symm]
 generalize s*(q-p)=S at *
 generalize r*(q-p)=R at *
 grind
theorem LS.ln {a b c:Nat}{cs:Cs}{m:Rat}(z:LS a b c cs m) (o:Ord cs):Ln b c cs m:=fun i hi=>by
 have t0:0<=tt cs i:=by
  have:=AN o.up (i:=0) (j:=i) () hi
  rw[o.t0] at this
  exact this
 have e:sat cs m (tt cs i)=slp cs m i:=by
  unfold sat
  rw[Kc o.up (k:=i) qAc (fun h=>o.up i h) _ hi (qAd _)]
 have z1:=z.sl _ t0
 have z2:=z.ic _ t0
 rw[e] at z1 z2
 rw[DK o hi] at z2
 exact#[z1,z2]
theorem Tm1.more {cs:Cs}{ts:List Rat}(t:Tm1 cs ts):Tm1 cs (ts++[T ts (ts.length-1)+1]):=by
 have n:=t.ne
 have ll:(ts++[T ts (ts.length-1)+1]).length=ts.length+1:=by simp
 refine#[(),by rw[T_l n];exact t.t0,fun i hi=>?_,fun k hk=>?_]
 .by_cases c:i+1<ts.length
  .rw[T_l c,T_l ()];exact t.up i c
  .rw[show i+1=ts.length from (),T_r,T_l (),show i=ts.length-1 from ()]
   grind
 .obtain⟨i,hi,e⟩:=t.a k hk
  exact#[i,(),by rw[T_l hi];exact e]
section
variable {h:Rat->Rat}{ts:List Rat}{S:Nat->Rat}{a b c g X:Nat}
end
end CH
namespace L3
open PySem PySem.Spec PyProof.Rows L2
def OJ (idx:List Nat)(ws:TX3)(tt:TT3)(te:TE3):TE3:=fun τ R=>ws τ fun xs=>∃J:Nat->List D->Prop,J 0 []/\(∀n ds,J n ds->ds.length<=n) /\
 (∀(n:Nat)(x:D)(ds:List D),xs[n]? = some x->J n ds->tt (N7 τ idx x) fun b=>if b=true then te (N7 τ idx x) (fun s=>dd s.arg fun y=>J (n+1) (ds++[y])) else J (n+1) ds)/\xs.length<=1000000/\∀ds,J xs.length ds->R (.l ds)
section
variable {X:L2.Cx}{x:Str}{px pos:Pos}{scope:Scope}{N:List Str}{idx:List Nat}{elt iter:Expr}{ifs:List Expr}{wi:TI}{ws:TX3}{tt:TT3}{te:TE3}
theorem Nd (hsrc:Src X wi ws){σ:St}{H:Hp}{Q:VK}(h:FE X (OJ idx ws tt te) σ H Q):Ji X.K idx wi (fun H₀=>FT (cxC X N scope H₀) tt) (fun H₀=>FE (cxC X N scope H₀) te) σ H Q:=by
 obtain⟨B,z,τ,R,r,ht,q⟩:=h
 refine hsrc B τ σ H z _ _ r ht fun J0 p1 xs e1 hP hJ=>fun D' hD hK=>?_
 obtain⟨J,j0,jl,hel,hsz,hR⟩:=hP
 have sz:(1000000:Nat)<sizeLine:=∅
 refine#[fun i m ys H'=>m=xs.length-i/\i<=xs.length/\∃z',Ext p1 #[H',z']/\z' D'=none/\∃ds,Iss X.K z' ys ds/\J i ds,#[xs.length,rfl,qAS _,p1.z,Ext.own e1.sub hD _,e1.sub.free hD,[],Iss.nil,j0],?_]
 rintro i m ys H' hD' ⟨rfl,hi,z',hs,hzD,ds,hiss,hj⟩
 by_cases hlt:i<xs.length
 .obtain⟨go,yl⟩:=(hJ H' hs.hh).1 i hlt
  refine .inr #[go,fun v H'' hy=>?_]
  obtain⟨rfl,d,hx,iv⟩:=yl v H'' hy
  have rr:Rep (cxC X N scope p1.h) p1 (N7 τ idx d) (some v::Ey σ idx) #[H'',z']:=Kk r e1 hs (iv.mono hs.zz)
  have hys:ys.length<=i:=by
   rw[hiss.1]
   exact jl i ds hj
  have keep:∀q:HZ,Ext #[H'',z'] q->q.z D'=none:=fun q e=>by
   cases y:q.z D' with
   |none=>rfl
   |some o =>
    rcases e.new D' o y with y|y
    .exact nomatch (hzD.symm.trans y)
    .exact nomatch (hD'.symm.trans y)
  refine#[_,_,_,_,rr,hel i d ds hx hj,fun b q3 e3 hb=>?_]
  cases b with
  |true =>
   rw[if_pos rfl] at hb ⊢
   refine#[_,_,_,_,rr.mono e3,hb,fun s v2 q4 e4 i4 f4 h4=>?_]
   obtain⟨y,hy',h4⟩:=C0 h4
   obtain⟨z5,e5,i5⟩:=DG e4 i4 f4
   rw[hy'] at i5
   have e35:=e3.trans e5
   have hD4:q4.h D'=some (.lst ys):=e35.hh _ _ hD'
   have hz5:z5 D'=none:=keep _ e35
   refine#[hD4,(),xs.length-(i+1),(),rfl,hlt,z5,?_,hz5,ds++[y],?_,h4]
   .have e15:=hs.trans e35
    refine#[fun b o hb'=>?_,e15.zz,fun b o hb'=>?_,e15.new]
    .have hne:b≠D':=by rintro rfl;rw[hD] at hb';cases hb'
     show upd q4.h D' _ b=some o
     rw[Af hne]
     exact e15.hh b o hb'
    .have hne:b≠D':=by
      rintro rfl
      have hb2:z5 b=some o:=hb'
      rw[hz5] at hb2;cases hb2
     show upd q4.h D' _ b=some o
     rw[Af hne]
     exact e15.sub b o hb'
   .exact(hiss.mono e35.zz).snoc i5
  |false =>
   rw[if_neg qAm] at hb ⊢
   exact#[e3.hh _ _ hD',xs.length-(i+1),(),rfl,hlt,q3.z,hs.trans e3,keep _ e3,ds,hiss.mono e3.zz,hb]
 .have ei:i=xs.length:=()
  subst ei
  refine .inl #[(hJ H' hs.hh).2 _ (qAd _),q (.l ds) _ #[H',z'] (e1.trans hs) #[D',ys,rfl,hD',hiss] (fun xs a _ h2=>?_) (hR ds hj)]
  .cases h2
   exact#[e1.hh.free hD,hK,hzD]
theorem He {i:Nat}{y:Str}{py spos:Pos}(O:Bo X x scope N idx) (hc:X.calm=true) (hi:PI X (.Name x px) iter wi) (hsrc:Src X wi ws) (hifs:∀cl C s₀ H₀ fp,Me (AQ X N scope cl C s₀ H₀ fp) ifs tt) (helt:∀cl C s₀ H₀ fp,PE3 (AQ X N scope cl C s₀ H₀ fp) elt te)
 (hN:X.N.Nodup) (hy:X.N[i]? = some y) (hly:Loc X.env.scope y)
 (hsw:swapsWith (.ListComp elt [#[.Name x px,iter,ifs,0]] scope pos) (some (.Name y py)) spos.line X.env=pure true:=by rfl) (hs:∀x,foldedSetIterable iter X.env x=pure x:=by intro _;rfl)
 (hfn:X.fn y=true\/X.env.scope.names.lookup y=some .local:=by first|exact .inl rfl|exact .inr rfl|assumption) (hp:Dz X i:=by first|exact CZ rfl|exact pin_ne rfl ∅|assumption) :
 PS3 X (.Assign [.Name y py] (.ListComp elt [#[.Name x px,iter,ifs,0]] scope pos) spos) (S9 i (OJ idx ws tt te)) :=
 #[BK (Fj O hc hi (JI hifs) (JU helt) hN hy hly hsw hs hfn) fun D2 σ H hh=>by obtain⟨B,z,τ,D3,r,ht,c⟩:=hh;exact Nd hsrc #[B,z,τ,_,r,ht,fun s v H' e i f h=>by
  cases s with
  |r _=>exact h.elim
  |d y=>exact c.nx _ _ _ (r.set e i f rfl hp) h
  |l ys=>exact c.nx _ _ _ (r.set e i f rfl hp) h]]
end
section
variable {X:L2.Cx}{pos:Pos}
end
section
variable {X:Cx}{pins:List (Addr×Obj)}{σ:St}{H H':Hp}{s s':Shared}{a:Addr}
end
section
variable {P:Program}{w:World}{K:W.Frag}{mg:Str->Option Value}{base:Heap}
end
section
variable {X:Cx}{e:Expr}{es:List Expr}{tr:TA3}
end
section
variable {X:Cx}{e:Expr}
end
open PySem PySem.Spec PyProof.Rows
structure Nc (P:Program)(w:World)(A:Around)(i l:Addr)(us:Array Value)(st:Nat->Heap->Prop):Prop where
 item:∀(t:Shared)(k:Nat)(u:Value)(Q:Value->Shared->Prop)(E:Value->Shared->Prop),st k t.heap->us[k]? = some u->(∀h1,st (k+1) h1->Heap.SameBut i t.heap h1->Q u { t with heap:=h1 })->wpAny (model P w) A (Builtin.SmallTypes.nextOf (.ref i)) Q E t
 done:∀(t:Shared)(k:Nat)(Q:Value->Shared->Prop)(E:Value->Shared->Prop),st k t.heap->us[k]? = none->(∀h1 x,Heap.ExtBut i t.heap h1->(∃o,h1.get? x=some o/\o.cls=.type "StopIteration")->E (.ref x) { t with heap:=h1 })->wpAny (model P w) A (Builtin.SmallTypes.nextOf (.ref i)) Q E t
 keep:∀(k:Nat)(h h1:Heap),st k h->(∀b o,b=i\/b=l->h.get? b=some o->h1.get? b=some o)->st k h1
def stL (i l:Addr)(us:Array Value)(k:Nat)(h:Heap):Prop:=h.IsListIter i l k/\h.IsList l us
def stT (i l:Addr)(us:Array Value)(k:Nat)(h:Heap):Prop:=h.IsTupleIter i l k/\h.IsTuple l us
section
variable {P:Program}{w:World}{A:Around}
theorem Ow (hd:A.handled=none){i l:Addr}(ne:l≠i) (us:Array Value):Nc P w A i l us (stL i l us) where
 item:=fun t k u Q E s1 hu q=>wpAny_nextOf_list_item s1.1 s1.2 hu fun h1 a b=>q h1 #[a,s1.2.extBut b.extBut ne] b
 done:=fun t k Q E s1 hu q=>wpAny_nextOf_list_end hd s1.1 s1.2 hu q
 keep:=fun k h h1 s1 e=>#[s1.1.at fun o z=>e i o (.inl rfl) z,s1.2.at fun o z=>e l o (.inr rfl) z]
theorem Mh (hd:A.handled=none){i l:Addr}(ne:l≠i) (us:Array Value):Nc P w A i l us (stT i l us) where
 item:=fun t k u Q E s1 hu q=>by
  obtain⟨⟨ob,g1,g2,g3⟩,oT,f1,f2,nT,f3⟩:=id s1
  have ty:=s1.1.typeIs (s:=t)
  refine wpAny_bind (wpAny_callSpecial?_slot (name:=Str.ofString "__next__") ty qBo (wpAny_call_entry qBo ty qCn ?_ (qCg _)))
  refine(wpAny_bind (wpAny_field g1 g3 (x:=Value.ref l) rfl ?_):wpAny _ _ (field (Value.ref i) 0 >>= _) _ _ t)
  refine(?_:wpAny _ _ (if (Value.ref l==Value.none)=true then _ else _) _ _ t)
  rw[if_neg (by intro z;cases z)]
  refine(wpAny_bind (wpAny_field g1 g3 (x:=Value.int k 0) rfl ?_):wpAny _ _ (field (Value.ref i) 1 >>= _) _ _ t)
  refine(wpAny_bind (wpAny_seqItems f1 f3 ?_):wpAny _ _ (seqItems? (Value.ref l) >>= _) _ _ t)
  simp only[qA8,hu]
  refine wpAny_bind (wpAny_setField g1 g3 (by simp) (wpAny_pure #[u,rfl,wpAny_pure (q _ #[?_,s1.2.extBut (Heap.SameBut.update ..).extBut ne] (Heap.SameBut.update ..))]))
  refine#[_,qCH _ g1 (Obj.isFreed_of_fields (Obj.data_mapFields g3 _)),(Obj.cls_mapFields ..).trans g2,?_]
  rw[Obj.data_mapFields g3]
  simp[rawInt]
 done:=fun t k Q E s1 hu q=>by
  obtain⟨⟨ob,g1,g2,g3⟩,oT,f1,f2,nT,f3⟩:=id s1
  have ty:=s1.1.typeIs (s:=t)
  refine wpAny_bind (wpAny_callSpecial?_slot (name:=Str.ofString "__next__") ty qBo (wpAny_call_entry qBo ty qCn ?_ (qCg _)))
  refine(wpAny_bind (wpAny_field g1 g3 (x:=Value.ref l) rfl ?_):wpAny _ _ (field (Value.ref i) 0 >>= _) _ _ t)
  refine(?_:wpAny _ _ (if (Value.ref l==Value.none)=true then _ else _) _ _ t)
  rw[if_neg (by intro z;cases z)]
  refine(wpAny_bind (wpAny_field g1 g3 (x:=Value.int k 0) rfl ?_):wpAny _ _ (field (Value.ref i) 1 >>= _) _ _ t)
  refine(wpAny_bind (wpAny_seqItems f1 f3 ?_):wpAny _ _ (seqItems? (Value.ref l) >>= _) _ _ t)
  simp only[qA8,hu]
  refine wpAny_bind (wpAny_rule (wpAny_bind (wpAny_setField g1 g3 (by simp) ?_)))
  refine(wpAny_bind ?_:wpAny _ _ (newExc (.type "StopIteration") [] >>= _) _ _ _)
  simp only[newExc,newTuple]
  refine wpAny_bind (wpAny_newObj_type ?_ (by size_fits))
  refine wpAny_bind (m:=firstArgMember _ _) (wpAny_of_eq (a:=Value.none) (by first|rfl|(unfold firstArgMember;rfl)) ?_)
  refine wpAny_newObj_type ?_ (by size_fits)
  unfold raiseNew
  refine wpAny_bind (wpAny_handled ?_)
  have hd1:A.in1.handled=none:=hd
  rw[hd1]
  exact wpAny_bind (wpAny_pure (wpAny_throw (q _ _ (((Heap.SameBut.update ..).extBut.push _).push _) #[_,qAA _ rfl,rfl])))
 keep:=fun k h h1 s1 e=>by
  obtain⟨⟨ob,g1,g2⟩,oT,f1,f2⟩:=s1
  exact#[#[ob,e i ob (.inl rfl) g1,g2],oT,e l oT (.inr rfl) f1,f2]
structure ZAp (z TI TO i1 i2 l1 l2:Addr):Prop where
 a1:TI≠z/\TO≠z/\i1≠z/\i2≠z/\l1≠z/\l2≠z
 a2:TI≠TO/\i1≠TO/\i2≠TO/\l1≠TO/\l2≠TO
 a3:TI≠i1/\i2≠i1/\l2≠i1/\TI≠i2/\l1≠i2
 a4:l1≠i1/\l2≠i2
variable {z TI TO i1 i2 l1 l2:Addr}{us1 us2:Array Value}{st1 st2:Nat->Heap->Prop}{s:Shared}{E:Value->Shared->Prop}
theorem Oq (D:ZAp z TI TO i1 i2 l1 l2)(S1:Nc P w A i1 l1 us1 st1)(S2:Nc P w A i2 l2 us2 st2){k:Nat}{x y a b:Value}{Q:Value->Shared->Prop}(Hz:IsZip s.heap z TI TO .none) (Ht:IsPair s.heap TI (.ref i1) (.ref i2)) (Ho:IsPair s.heap TO a b)
 (c1:st1 k s.heap) (c2:st2 k s.heap) (hx:us1[k]? = some x) (hy:us2[k]? = some y)
 (fin:∀h',IsZip h' z TI TO (rawInt s.heap.objs.size)->IsPair h' TO x y->st1 (k+1) h'->st2 (k+1) h'->IsPair h' s.heap.objs.size x y->(∀c o,c≠z->c≠TO->c≠i1->c≠i2->s.heap.get? c=some o->h'.get? c=some o)->Q (.ref s.heap.objs.size) { s with heap:=h' }) :
 wpAny (model P w) A (Builtin.«zip.__next__» #[[.ref z],[]]) (fun f s'=>∃v,f=.done (.ret v)/\Q v s') E s:=by
 obtain⟨⟨d1,d2,d3,d4,d5,d6⟩,⟨e1,e2,e3,e4,e5⟩,⟨f1,f2,f3,f4,f5⟩,_⟩:=D
 refine(wpAny_bind (wpAny_field Hz rfl (x:=Value.bool false) rfl ?_):wpAny _ _ (field (Value.ref z) 2 >>= _) _ _ _)
 refine(wpAny_bind (wpAny_field Hz rfl (x:=Value.ref TI) rfl ?_):wpAny _ _ (field (Value.ref z) 3 >>= _) _ _ _)
 refine wpAny_bind (wpAny_seqItems Ht rfl ?_)
 refine(wpAny_bind ?_:wpAny _ _ (Builtin.SmallTypes.ownedTupleIsFree (Value.ref z) >>= _) _ _ _)
 refine wpAny_bind (wpAny_field Hz rfl (x:=Value.none) rfl (wpAny_pure ?_))
 simp only[if_true]
 refine wpAny_bind (wpAny_rule (wpAny_bind (wpAny_field Hz rfl (x:=Value.ref TO) rfl (wpAny_bind (wpAny_setField_rec Hz (by simp) fun g1 Hz1 m1=>?_)))))
 have Hz1:IsZip g1 z TI TO .ellipsis:=Hz1
 refine wpAny_bind ?_
 simp only[List.zipIdx_cons,List.zipIdx_nil,qCD,List.forIn_nil]
 have c1a:st1 k g1:=S1.keep k _ _ c1 fun b o hb e=>by
  rcases hb with rfl|rfl
  .exact m1.extBut _ _ d3 e
  .exact m1.extBut _ _ d5 e
 refine wpAny_bind (wpAny_bind (wpAny_onRaise (?_:wpAny _ _ (Builtin.SmallTypes.nextOf (Value.ref i1) >>= _) _ _ _)))
 refine wpAny_bind (S1.item _ k x _ _ c1a hx fun g2 c1b m2=>wpAny_pure ?_)
 have Ho2:IsPair g2 TO a b:=m2.extBut _ _ (Ne.symm e2) (m1.extBut _ _ d2 Ho)
 refine wpAny_bind (wpAny_seqItems Ho2 rfl (wpAny_bind (wpAny_updateSeq_pair Ho2 fun g3 Ho3 m3=>wpAny_bind (wpAny_letGo (wpAny_pure ?_)))))
 have Ho3:IsPair g3 TO x b:=Ho3
 have c2a:st2 k g3:=S2.keep k _ _ c2 fun b o hb e=>by
  rcases hb with rfl|rfl
  .exact m3.extBut _ _ e3 (m2.extBut _ _ f2 (m1.extBut _ _ d4 e))
  .exact m3.extBut _ _ e5 (m2.extBut _ _ f3 (m1.extBut _ _ d6 e))
 refine wpAny_bind (wpAny_bind (wpAny_onRaise (?_:wpAny _ _ (Builtin.SmallTypes.nextOf (Value.ref i2) >>= _) _ _ _)))
 refine wpAny_bind (S2.item _ k y _ _ c2a hy fun g4 c2b m4=>wpAny_pure ?_)
 have Ho4:IsPair g4 TO x b:=m4.extBut _ _ (Ne.symm e3) Ho3
 refine wpAny_bind (wpAny_seqItems Ho4 rfl (wpAny_bind (wpAny_updateSeq_pair Ho4 fun g5 Ho5 m5=>wpAny_bind (wpAny_letGo (wpAny_pure (wpAny_pure ?_))))))
 have Ho5:IsPair g5 TO x y:=Ho5
 have sz:g5.objs.size=s.heap.objs.size:=by rw[m5.1,m4.1,m3.1,m2.1,m1.1]
 have Hz5:IsZip g5 z TI TO .ellipsis:=m5.extBut _ _ (Ne.symm d2) (m4.extBut _ _ (Ne.symm d4) (m3.extBut _ _ (Ne.symm d2) (m2.extBut _ _ (Ne.symm d3) Hz1)))
 have old:∀c o,c≠z->c≠TO->c≠i1->c≠i2->s.heap.get? c=some o->g5.get? c=some o:=fun c o n1 n2 n3 n4 e =>
  m5.extBut _ _ n2 (m4.extBut _ _ n4 (m3.extBut _ _ n2 (m2.extBut _ _ n3 (m1.extBut _ _ n1 e))))
 have at5:∀b o,b≠TO->b≠i2->g2.get? b=some o->g5.get? b=some o:=fun b o n1 n2 e=>m5.extBut _ _ n1 (m4.extBut _ _ n2 (m3.extBut _ _ n1 e))
 have lz:z<g5.objs.size:=qAi Hz5
 refine wpAny_bind (wpAny_seqItems Ho5 rfl (wpAny_bind (wpAny_newTuple ?_)))
 refine(wpAny_bind ?_:wpAny _ _ (Builtin.SmallTypes.ownedTupleHandOut (Value.ref z) (Value.ref g5.objs.size) >>= _) _ _ _)
 have Hz6:IsZip (g5.push { cls:=.type "tuple",data:=.seq (List.toArray [x,y]) }) z TI TO .ellipsis:=qAe _ Hz5
 refine wpAny_bind (wpAny_setField_rec Hz6 (by simp) fun g7 Hz7 m7=>?_)
 have Hz7:IsZip g7 z TI TO (rawInt g5.objs.size):=Hz7
 refine wpAny_setField_rec Hz7 (by simp) fun g8 Hz8 m8=>?_
 have Hz8:IsZip g8 z TI TO (rawInt g5.objs.size):=Hz8
 have up:∀c o,c≠z->g5.get? c=some o->g8.get? c=some o:=fun c o n e=>m8.extBut _ _ n (m7.extBut _ _ n (qAe _ e))
 have new8:IsPair g8 g5.objs.size x y:=m8.extBut _ _ (qBr lz) (m7.extBut _ _ (qBr lz) (qAA _ rfl))
 rw[sz] at Hz8 new8
 have k1:st1 (k+1) g8:=S1.keep _ _ _ c1b fun b o hb e=>by
  rcases hb with rfl|rfl
  .exact up _ _ d3 (at5 _ _ e2 (Ne.symm f2) e)
  .exact up _ _ d5 (at5 _ _ e4 f5 e)
 have k2:st2 (k+1) g8:=S2.keep _ _ _ c2b fun b o hb e=>by
  rcases hb with rfl|rfl
  .exact up _ _ d4 (m5.extBut _ _ e3 e)
  .exact up _ _ d6 (m5.extBut _ _ e5 e)
 refine wpAny_pure #[_,rfl,(?_:Q (.ref g5.objs.size) _)]
 rw[sz]
 exact fin g8 Hz8 (up _ _ d2 Ho5) k1 k2 new8 fun c o n1 n2 n3 n4 e=>up c o n1 (old c o n1 n2 n3 n4 e)
theorem Nz (hd:A.handled=none)(D:ZAp z TI TO i1 i2 l1 l2)(S1:Nc P w A i1 l1 us1 st1)(S2:Nc P w A i2 l2 us2 st2){k:Nat}{a b:Value}{Q:Fin->Shared->Prop}(Hz:IsZip s.heap z TI TO .none) (Ht:IsPair s.heap TI (.ref i1) (.ref i2)) (Ho:IsPair s.heap TO a b)
 (c1:st1 k s.heap) (c2:st2 k s.heap) (he:us1[k]? = none\/us2[k]? = none)
 (fin:∀h' e,(∀c o,c≠z->c≠TO->c≠i1->c≠i2->s.heap.get? c=some o->h'.get? c=some o)->(∃o,h'.get? e=some o/\o.cls=.type "StopIteration")->E (.ref e) { s with heap:=h' }) :
 wpAny (model P w) A (Builtin.«zip.__next__» #[[.ref z],[]]) Q E s:=by
 obtain⟨⟨d1,d2,d3,d4,d5,d6⟩,⟨e1,e2,e3,e4,e5⟩,⟨f1,f2,f3,f4,f5⟩,_⟩:=D
 refine(wpAny_bind (wpAny_field Hz rfl (x:=Value.bool false) rfl ?_):wpAny _ _ (field (Value.ref z) 2 >>= _) _ _ _)
 refine(wpAny_bind (wpAny_field Hz rfl (x:=Value.ref TI) rfl ?_):wpAny _ _ (field (Value.ref z) 3 >>= _) _ _ _)
 refine wpAny_bind (wpAny_seqItems Ht rfl ?_)
 refine(wpAny_bind ?_:wpAny _ _ (Builtin.SmallTypes.ownedTupleIsFree (Value.ref z) >>= _) _ _ _)
 refine wpAny_bind (wpAny_field Hz rfl (x:=Value.none) rfl (wpAny_pure ?_))
 simp only[if_true]
 refine wpAny_bind (wpAny_rule (wpAny_bind (wpAny_field Hz rfl (x:=Value.ref TO) rfl (wpAny_bind (wpAny_setField_rec Hz (by simp) fun g1 Hz1 m1=>?_)))))
 have Hz1:IsZip g1 z TI TO .ellipsis:=Hz1
 refine wpAny_bind ?_
 simp only[List.zipIdx_cons,List.zipIdx_nil,qCD,List.forIn_nil]
 have c1a:st1 k g1:=S1.keep k _ _ c1 fun b o hb e=>by
  rcases hb with rfl|rfl
  .exact m1.extBut _ _ d3 e
  .exact m1.extBut _ _ d5 e
 refine wpAny_bind (wpAny_bind (wpAny_onRaise (?_:wpAny _ _ (Builtin.SmallTypes.nextOf (Value.ref i1) >>= _) _ _ _)))
 have out:∀{g:Heap}{x:Addr}(n:IsZip g z TI TO .ellipsis) (g':Heap) (m:Heap.SameBut z g g'),(∃o,g.get? x=some o/\o.cls=.type "StopIteration")->∃o,g'.get? x=some o/\o.cls=.type "StopIteration":=fun {g x} n g' m #[o,h1,h2] =>
  #[o,m.extBut _ _ (fun y=>by subst y;rw[n] at h1;cases h1;simp at h2) h1,h2]
 cases hx:us1[k]? with
 |none =>
  refine wpAny_bind (S1.done _ k _ _ c1a hx fun g2 x m2 hs=>?_)
  have Hz2:IsZip g2 z TI TO .ellipsis:=m2 _ _ (Ne.symm d3) Hz1
  exact wpAny_setField_rec Hz2 (by simp) fun g3 _ m3=>fin g3 x (fun c o n1 _ n3 _ e=>m3.extBut _ _ n1 (m2 _ _ n3 (m1.extBut _ _ n1 e))) (out Hz2 g3 m3 hs)
 |some x =>
  have hy:us2[k]? = none:=he.resolve_left (by rw[hx];simp)
  refine wpAny_bind (S1.item _ k x _ _ c1a hx fun g2 c1b m2=>wpAny_pure ?_)
  have Ho2:IsPair g2 TO a b:=m2.extBut _ _ (Ne.symm e2) (m1.extBut _ _ d2 Ho)
  refine wpAny_bind (wpAny_seqItems Ho2 rfl (wpAny_bind (wpAny_updateSeq_pair Ho2 fun g3 Ho3 m3=>wpAny_bind (wpAny_letGo (wpAny_pure ?_)))))
  have c2a:st2 k g3:=S2.keep k _ _ c2 fun b o hb e=>by
   rcases hb with rfl|rfl
   .exact m3.extBut _ _ e3 (m2.extBut _ _ f2 (m1.extBut _ _ d4 e))
   .exact m3.extBut _ _ e5 (m2.extBut _ _ f3 (m1.extBut _ _ d6 e))
  refine wpAny_bind (wpAny_bind (wpAny_onRaise (?_:wpAny _ _ (Builtin.SmallTypes.nextOf (Value.ref i2) >>= _) _ _ _)))
  refine wpAny_bind (S2.done _ k _ _ c2a hy fun g4 x m4 hs=>?_)
  have Hz4:IsZip g4 z TI TO .ellipsis:=m4 _ _ (Ne.symm d4) (m3.extBut _ _ (Ne.symm d2) (m2.extBut _ _ (Ne.symm d3) Hz1))
  exact wpAny_setField_rec Hz4 (by simp) fun g5 _ m5=>fin g5 x (fun c o n1 n2 n3 n4 e=>m5.extBut _ _ n1 (m4 _ _ n4 (m3.extBut _ _ n2 (m2.extBut _ _ n3 (m1.extBut _ _ n1 e))))) (out Hz4 g5 m5 hs)
end
abbrev zpA (h:Heap)(l1:Addr):Heap:=h.push { cls:=.type "tuple_iterator",data:=.fields (List.toArray [.ref l1,.int 0 0]) }
abbrev zpB (h:Heap)(l1 l2:Addr):Heap:=(zpA h l1).push { cls:=.type "list_iterator",data:=.fields (List.toArray [.ref l2,.int 0 0]) }
abbrev zpC (h:Heap)(l1 l2:Addr):Heap:=(zpB h l1 l2).push { cls:=.type "tuple",data:=.seq (List.toArray [.ref h.objs.size,.ref (zpA h l1).objs.size]) }
abbrev zpD (h:Heap)(l1 l2:Addr):Heap:=(zpC h l1 l2).push { cls:=.type "tuple",data:=.seq (List.toArray [.none,.none]) }
abbrev zpE (h:Heap)(l1 l2:Addr):Heap:=(zpD h l1 l2).push { cls:=.type "zip",data:=.fields (List.toArray [.none,.bool false,.bool false,.ref (zpB h l1 l2).objs.size,.ref (zpC h l1 l2).objs.size]) }
theorem Na (l1 l2:Addr)(xs ys:Array Value) :
 Meets (Builtin.«zip.__new__» #[[.type "zip",.ref l1,.ref l2],[]]) (fun _ R s=>s.heap.IsTuple l1 xs/\s.heap.IsList l2 ys/\R (.ok (.ret (.ref (zpD s.heap l1 l2).objs.size))) { s with heap:=zpE s.heap l1 l2 }) :=
 .of_wp fun prog w A R s h=>by
  obtain⟨hp,g,d,tk,os⟩:=s;obtain⟨t1,t2,h⟩:=h
  have hsub:=sub_zip
  have q1:Heap.IsTuple (Shared.heap #[hp,g,d,tk,os]) l1 xs:=t1
  have q2:Heap.IsList (Shared.heap #[hp.push { cls:=.type "tuple_iterator",data:=.fields (List.toArray [.ref l1,.int 0 0]) },g,d,tk,os]) l2 ys:=Heap.IsList.push t2 _
  wp_walk using wpAny_pyIter_tuple q1,wpAny_pyIter_list q2
  exact#[_,rfl,h]
section
variable {P:Program}{w:World}{A:Around}{E:Value->Shared->Prop}{s:Shared}
theorem Lv {l1 l2:Addr}{xs ys:Array Value}{Q:Value->Shared->Prop}(t1:s.heap.IsTuple l1 xs) (t2:s.heap.IsList l2 ys)
 (fin:∀h',IsZip h' (s.heap.objs.size+4) (s.heap.objs.size+2) (s.heap.objs.size+3) .none->IsPair h' (s.heap.objs.size+2) (.ref s.heap.objs.size) (.ref (s.heap.objs.size+1))->IsPair h' (s.heap.objs.size+3) .none .none ->
  h'.IsTupleIter s.heap.objs.size l1 0->h'.IsListIter (s.heap.objs.size+1) l2 0->(∀c o,s.heap.get? c=some o->h'.get? c=some o)->Q (.ref (s.heap.objs.size+4)) { s with heap:=h' }) :
 wpAny (model P w) A (call (.type "zip") [.ref l1,.ref l2]) Q E s:=by
 refine callType_new F.called_zip ∅ (F.typeCall_zip_2 _ _) (F.newCall_zip_2 _ _) (fun ob=>F.args_object_init_3 ob _ _) F.entry_zip_new (Na l1 l2 xs ys) #[t1,t2,?_]
 have n1:(zpA s.heap l1).objs.size=s.heap.objs.size+1:=qBS ..
 have n2:(zpB s.heap l1 l2).objs.size=s.heap.objs.size+2:=by rw[qBS,n1]
 have n3:(zpC s.heap l1 l2).objs.size=s.heap.objs.size+3:=by rw[qBS,n2]
 have n4:(zpD s.heap l1 l2).objs.size=s.heap.objs.size+4:=by rw[qBS,n3]
 have o5:(zpE s.heap l1 l2).get? (zpD s.heap l1 l2).objs.size=some _:=qAA _ rfl
 have o4:(zpE s.heap l1 l2).get? (zpC s.heap l1 l2).objs.size=some _:=qAe _ (qAA _ rfl)
 have o3:(zpE s.heap l1 l2).get? (zpB s.heap l1 l2).objs.size=some _:=qAe _ (qAe _ (qAA _ rfl))
 have o2:(zpE s.heap l1 l2).get? (zpA s.heap l1).objs.size=some _:=qAe _ (qAe _ (qAe _ (qAA _ rfl)))
 have o1:(zpE s.heap l1 l2).get? s.heap.objs.size=some _:=qAe _ (qAe _ (qAe _ (qAe _ (qAA _ rfl))))
 refine(?_:_/\_)
 rw[n2,n3,n4] at o5
 rw[n1,n2] at o3
 rw[n3] at o4
 rw[n1] at o2
 rw[n4]
 exact#[#[_,o5,rfl],fin _ o5 o3 o4 #[_,o1,rfl,rfl] #[_,o2,rfl,rfl] fun c o x=>qAe _ (qAe _ (qAe _ (qAe _ (qAe _ x))))]
variable {z TI TO i1 i2 l1 l2:Addr}{us1 us2:Array Value}{st1 st2:Nat->Heap->Prop}
theorem NF (D:ZAp z TI TO i1 i2 l1 l2)(S1:∀A':Around,A'.handled=A.handled->Nc P w A' i1 l1 us1 st1)(S2:∀A':Around,A'.handled=A.handled->Nc P w A' i2 l2 us2 st2){k:Nat}{x y a b:Value}{Q:Option Value->Shared->Prop}(Hz:IsZip s.heap z TI TO .none) (Ht:IsPair s.heap TI (.ref i1) (.ref i2)) (Ho:IsPair s.heap TO a b)
 (c1:st1 k s.heap) (c2:st2 k s.heap) (hx:us1[k]? = some x) (hy:us2[k]? = some y)
 (fin:∀h',IsZip h' z TI TO (rawInt s.heap.objs.size)->IsPair h' TO x y->st1 (k+1) h'->st2 (k+1) h'->IsPair h' s.heap.objs.size x y->(∀c o,c≠z->c≠TO->c≠i1->c≠i2->s.heap.get? c=some o->h'.get? c=some o)->Q (some (.ref s.heap.objs.size)) { s with heap:=h' }) :
 wpAny (model P w) A (pyNext (.ref z)) Q E s:=by
 have ty:s.TypeIs (.ref z) "zip":=#[_,Hz,rfl]
 refine wpAny_bind (wpAny_attempt (wpAny_callSpecial?_slot (name:=Str.ofString "__next__") ty qCc (wpAny_call_entry qCc ty F.entry_zip_next ?_ (F.args_zip_next_1 _))))
 refine Oq (A:=A.in1) D (S1 A.in1 rfl) (S2 A.in1 rfl) Hz Ht Ho c1 c2 hx hy fun h' b1 b2 b3 b4 b5 b6=>?_
 exact wpAny_pure (fin h' b1 b2 b3 b4 b5 b6)
theorem Oa (hd:A.handled=none)(D:ZAp z TI TO i1 i2 l1 l2)(S1:∀A':Around,A'.handled=A.handled->Nc P w A' i1 l1 us1 st1)(S2:∀A':Around,A'.handled=A.handled->Nc P w A' i2 l2 us2 st2){k:Nat}{a b:Value}{Q:Option Value->Shared->Prop}(Hz:IsZip s.heap z TI TO .none) (Ht:IsPair s.heap TI (.ref i1) (.ref i2)) (Ho:IsPair s.heap TO a b)
 (c1:st1 k s.heap) (c2:st2 k s.heap) (he:us1[k]? = none\/us2[k]? = none)
 (fin:∀h',(∀c o,c≠z->c≠TO->c≠i1->c≠i2->s.heap.get? c=some o->h'.get? c=some o)->Q none { s with heap:=h' }):wpAny (model P w) A (pyNext (.ref z)) Q E s:=by
 have ty:s.TypeIs (.ref z) "zip":=#[_,Hz,rfl]
 refine wpAny_bind (wpAny_attempt (wpAny_callSpecial?_slot (name:=Str.ofString "__next__") ty qCc (wpAny_call_entry qCc ty F.entry_zip_next ?_ (F.args_zip_next_1 _))))
 refine Nz (A:=A.in1) hd D (S1 A.in1 rfl) (S2 A.in1 rfl) Hz Ht Ho c1 c2 he fun h' e kp hs=>?_
 obtain⟨o,g1,g2⟩:=hs
 exact wpAny_bind (wpAny_isInstance (T:="StopIteration") (b:=true) #[o,g1,g2] isSubtype_stop (wpAny_pure (fin _ kp)))
end
def SqB (K:W.Frag)(b:Bool)(H:Hp)(a:Addr)(xs:List V):Prop:=if b=true then SqT K H a xs else SqL K H a xs
def ItB (b:Bool)(h:Heap)(i l:Addr)(k:Nat):Prop:=if b=true then h.IsTupleIter i l k else h.IsListIter i l k
def Itz (K:W.Frag)(b1 b2:Bool)(l1 l2:Addr):It :=
 #[fun i H=>∃xs ys x y,SqB K b1 H l1 xs/\SqB K b2 H l2 ys/\xs[i]? = some x/\ys[i]? = some y,
  fun i H v H'=>∃p x y,H p=none/\v=.ref p/\(∀xs,SqB K b1 H l1 xs->xs[i]? = some x)/\(∀ys,SqB K b2 H l2 ys->ys[i]? = some y)/\H'=upd H p (.tup [x,y]),
  fun i H=>∃xs ys,SqB K b1 H l1 xs/\SqB K b2 H l2 ys/\(xs.length<=i\/ys.length<=i)]
theorem FW {b:Bool}{h h':Heap}{i l:Addr}{k:Nat}(a:ItB b h i l k) (e:∀o,h.get? i=some o->h'.get? i=some o):ItB b h' i l k:=by
 unfold ItB at *
 split at a
 .rename_i c;rw[if_pos c];obtain⟨o,g1,g2⟩:=a;exact#[o,e o g1,g2]
 .rename_i c;rw[if_neg c];exact a.at fun o z=>e o z
theorem HU {b:Bool}{h:Heap}{i l:Addr}{k:Nat}(a:ItB b h i l k):∃o,h.get? i=some o/\∀v,o.data≠.cell v:=by
 unfold ItB at a
 split at a
 .obtain⟨o,g1,g2,g3⟩:=a;exact#[o,g1,fun v z=>by rw[g3] at z;cases z]
 .obtain⟨o,g1,g2,g3⟩:=a;exact#[o,g1,fun v z=>by rw[g3] at z;cases z]
def stB (b:Bool)(i l:Addr)(us:Array Value)(k:Nat)(h:Heap):Prop:=if b=true then stT i l us k h else stL i l us k h
theorem NO {P:Program}{w:World}{A:Around}(hd:A.handled=none) (b:Bool){i l:Addr}(ne:l≠i) (us:Array Value):Nc P w A i l us (stB b i l us):=by
 cases b with
 |true=>exact Mh hd ne us
 |false=>exact Ow hd ne us
section
variable {X:Cx}{pins:List (Addr×Obj)}{σ:St}{H:Hp}{s:Shared}
theorem Hw {b:Bool}{l:Addr}{xs:List V}(I:Inv X pins σ H s) (q:SqB X.K b H l xs):∃its:List Value,Bt xs its/\∀i k,ItB b s.heap i l k->stB b i l its.toArray k s.heap:=by
 unfold SqB at q
 cases b with
 |true =>
  obtain⟨its,rv,p,hz⟩:=I.tuple q
  exact#[its,rv,fun i k a=>#[a,p]]
 |false =>
  obtain⟨its,rv,p,hz⟩:=I.list q
  exact#[its,rv,fun i k a=>#[a,p.isList]]
theorem M6 {b:Bool}{l:Addr}{xs ys:List V}(I:Inv X pins σ H s) (q:SqB X.K b H l xs) (r:SqB X.K b H l ys):ys=xs:=by
 unfold SqB at q r
 cases b with
 |true=>exact I.tuple_inj r q
 |false=>exact I.list_inj r q
end
def tnZ (b1 b2:Bool)(z TI TO i1 i2 l1 l2:Addr)(i:Nat)(h:Heap):Prop:=IsZip h z TI TO .none/\IsPair h TI (.ref i1) (.ref i2)/\(∃a b,IsPair h TO a b)/\ItB b1 h i1 l1 i/\ItB b2 h i2 l2 i
theorem O4 {b:Bool}{i l:Addr}{us:Array Value}{k:Nat}{h:Heap}(a:stB b i l us k h):ItB b h i l k:=by
 unfold stB at a
 unfold ItB
 split at a
 .rename_i c;rw[if_pos c];exact a.1
 .rename_i c;rw[if_neg c];exact a.1
theorem Ny {P:Program}{w:World}{K:W.Frag}{elts:List Expr}{x1:Nat}{tpos:Pos}(b1 b2:Bool){z TI TO i1 i2 l1 l2:Addr}(D:ZAp z TI TO i1 i2 l1 l2):Qe P w K (.Tuple elts x1 tpos) (Itz K b1 b2 l1 l2) [z,TI,TO,i1,i2] z (tnZ b1 b2 z TI TO i1 i2 l1 l2) where
 mem:=by simp
 obj:=fun i h st b hb=>by
  obtain⟨g1,g2,⟨a,c,g3⟩,g4,g5⟩:=st
  simp only[qAk,qA4,or_false] at hb
  rcases hb with rfl|rfl|rfl|rfl|rfl
  .exact#[_,g1,fun v y=>by cases y]
  .exact#[_,g2,fun v y=>by cases y]
  .exact#[_,g3,fun v y=>by cases y]
  .exact HU g4
  .exact HU g5
 keep:=fun i h h' st k=>by
  obtain⟨g1,g2,⟨a,c,g3⟩,g4,g5⟩:=st
  exact#[k z (by simp) _ g1,k TI (by simp) _ g2,#[a,c,k TO (by simp) _ g3],FW g4 fun o e=>k i1 (by simp) o e,FW g5 fun o e=>k i2 (by simp) o e]
 item:=by
  intro X hP hw hK hc i pins s σ H E I hf st hg
  subst hP hw hK
  obtain⟨xs,ys,x,y,q1,q2,hx,hy⟩:=hg
  obtain⟨its1,rv1,src1⟩:=Hw I q1
  obtain⟨its2,rv2,src2⟩:=Hw I q2
  obtain⟨u,hu,ru⟩:=rv1.get hx
  obtain⟨v,hv,rv⟩:=rv2.get hy
  obtain⟨g1,g2,⟨a,c,g3⟩,g4,g5⟩:=st
  have hd:=I.ok.hd hc
  have fz:=hf z (by simp)
  have fI:=hf TI (by simp)
  have fO:=hf TO (by simp)
  have f1:=hf i1 (by simp)
  have f2:=hf i2 (by simp)
  refine NF D (fun A' e=>NO (e.trans hd) b1 D.a4.1 its1.toArray) (fun A' e=>NO (e.trans hd) b2 D.a4.2 its2.toArray) g1 g2 g3 (src1 i1 i g4) (src2 i2 i g5) (x:=u) (y:=v) (by simpa using hu) (by simpa using hv) fun h1 k1 k2 k3 k4 k5 k6=>#[_,rfl,wpAny_letOwnedTupleGo_zip (s:={ s with heap:=h1 }) k1 fun h2 m1 m2=>?_]
  have m2':Heap.SameBut z h1 h2:=m2
  have lt:∀{b:Addr}{o:Obj},s.heap.get? b=some o->s.heap.objs.size≠b:=fun e=>qBr (qAi e)
  have hn:H s.heap.objs.size=none:=I.hok.fresh (qAd _)
  have old2:∀b o,b≠z->b≠TO->b≠i1->b≠i2->s.heap.get? b=some o->h2.get? b=some o:=fun b o n1 n2 n3 n4 y=>(m2'.2 b n1).trans (k6 b o n1 n2 n3 n4 y)
  have tup2:h2.get? s.heap.objs.size=some { cls:=.type "tuple",data:=.seq (List.toArray [u,v]) }:=(m2'.2 _ (lt g1)).trans k5
  have trk:∀{b:Addr}{o:HO},H b=some o->b≠z/\b≠TO/\b≠i1/\b≠i2:=fun {b o} q=>#[(fun y=>by rw[y,fz.1] at q;cases q),(fun y=>by rw[y,fO.1] at q;cases q),(fun y=>by rw[y,f1.1] at q;cases q),(fun y=>by rw[y,f2.1] at q;cases q)]
  have hok2:HOk X.prog X.w (upd H s.heap.objs.size (.tup [x,y])) h2:=fun b o q=>by
   by_cases hb:b=s.heap.objs.size
   .subst hb
    rw[Aj] at q
    cases q
    exact#[by show 2<=sizeLine;decide,[u,v],.cons ru (.cons rv .nil),#[_,tup2,rfl,_,rfl]]
   .rw[Af hb] at q
    refine(I.hok b o q).stay (hf:=fun c w1 w2 y=>by rw[Af (As y hn)];exact y) (fun c o hc' y=>?_) (fun c y=>by rw[Af (As y hn)];exact y) fun c ys y=>by rw[Af (As y hn)];exact y
    have t:c≠z/\c≠TO/\c≠i1/\c≠i2:=by
     rcases hc' with rfl|hc'
     .exact trk q
     .exact trk hc'
    exact old2 c o t.1 t.2.1 t.2.2.1 t.2.2.2 y
  have nin:∀{b:Addr},b∉[z,TO,i1,i2]->b≠z/\b≠TO/\b≠i1/\b≠i2:=fun {b} h=>#[(fun y=>h (by simp[y])),(fun y=>h (by simp[y])),(fun y=>h (by simp[y])),(fun y=>h (by simp[y]))]
  have I2:Inv X pins σ (upd H s.heap.objs.size (.tup [x,y])) { s with heap:=h2,toks:=s.toks }:=by
   refine I.step (g':=s.gens) (d':=s.drawn) (ch:=[z,TO,i1,i2]) (fun b hb=>?_) (fun b o _ _ hb q _=>old2 b o (nin hb).1 (nin hb).2.1 (nin hb).2.2.1 (nin hb).2.2.2 q) (fun b o _ _ hb q _=>#[o.slots,old2 b o (nin hb).1 (nin hb).2.1 (nin hb).2.2.1 (nin hb).2.2.2 q])
    (fun b o _ q n=>by rw[Af (qAF (qAi q))];exact n) (fun b o hb q=>#[o,old2 b o (nin hb).1 (nin hb).2.1 (nin hb).2.2.1 (nin hb).2.2.2 q])
    (fun b ys y=>by rw[Af (As y hn)];exact y) (fun b o ys y=>by rw[Af (As y hn)];exact y) (fun b ps y=>#[(List.toArray []),by rw[Af (As y hn),y];simp]) (fun m hm=>?_) hok2 I.bare
   .simp only[qAk,qA4,or_false] at hb
    rcases hb with rfl|rfl|rfl|rfl
    .exact#[fz.2.2.2.1,fz.2.1,fz.2.2.2.2.1,fz.2.2.2.2.2]
    .exact#[fO.2.2.2.1,fO.2.1,fO.2.2.2.2.1,fO.2.2.2.2.2]
    .exact#[f1.2.2.2.1,f1.2.1,f1.2.2.2.2.1,f1.2.2.2.2.2]
    .exact#[f2.2.2.2.1,f2.2.1,f2.2.2.2.2.1,f2.2.2.2.2.2]
   .obtain⟨o,es,ep,ho,r⟩:=hm
    exact#[o,es,ep,old2 _ o (Ne.symm fz.2.1) (Ne.symm fO.2.1) (Ne.symm f1.2.1) (Ne.symm f2.2.1) ho,r]
  have ob1:=HU g4
  have ob2:=HU g5
  refine#[.ref s.heap.objs.size,_,I2,rfl,#[_,x,y,hn,rfl,fun zs hz=>by rw[M6 I q1 hz];exact hx,fun zs hz=>by rw[M6 I q2 hz];exact hy,rfl],#[m1,?_,#[u,v,?_],?_,?_],fun b hb=>?_]
  .exact(m2'.2 _ D.a1.1).trans (k6 _ _ D.a1.1 D.a2.1 D.a3.1 D.a3.2.2.2.1 g2)
  .exact(m2'.2 _ D.a1.2.1).trans k2
  .exact FW (O4 k3) fun o e=>(m2'.2 _ D.a1.2.2.1).trans e
  .exact FW (O4 k4) fun o e=>(m2'.2 _ D.a1.2.2.2.1).trans e
  .have ne:∀{b:Addr}{o:Obj},s.heap.get? b=some o->b≠s.heap.objs.size:=fun e=>qAF (qAi e)
   simp only[qAk,qA4,or_false] at hb
   rcases hb with rfl|rfl|rfl|rfl|rfl
   .rw[Af (ne g1)];exact fz.1
   .rw[Af (ne g2)];exact fI.1
   .rw[Af (ne g3)];exact fO.1
   .obtain⟨o,e,_⟩:=ob1;rw[Af (ne e)];exact f1.1
   .obtain⟨o,e,_⟩:=ob2;rw[Af (ne e)];exact f2.1
 done:=by
  intro X hP hw hK hc i pins s σ H E I hf st hg
  subst hP hw hK
  obtain⟨xs,ys,q1,q2,he⟩:=hg
  obtain⟨its1,rv1,src1⟩:=Hw I q1
  obtain⟨its2,rv2,src2⟩:=Hw I q2
  obtain⟨g1,g2,⟨a,c,g3⟩,g4,g5⟩:=st
  have hd:=I.ok.hd hc
  have fz:=hf z (by simp)
  have fO:=hf TO (by simp)
  have f1:=hf i1 (by simp)
  have f2:=hf i2 (by simp)
  refine Oa hd D (fun A' e=>NO (e.trans hd) b1 D.a4.1 its1.toArray) (fun A' e=>NO (e.trans hd) b2 D.a4.2 its2.toArray) g1 g2 g3 (src1 i1 i g4) (src2 i2 i g5) ?_ fun h' kp=>#[rfl,?_]
  .have e1:=rv1.length
   have e2:=rv2.length
   rcases he with he|he
   .left;rw[qB4,qAM];omega
   .right;rw[qB4,qAM];omega
  .have nin:∀{b:Addr},b∉[z,TO,i1,i2]->b≠z/\b≠TO/\b≠i1/\b≠i2:=fun {b} h=>#[(fun y=>h (by simp[y])),(fun y=>h (by simp[y])),(fun y=>h (by simp[y])),(fun y=>h (by simp[y]))]
   have old2:∀b o,b∉[z,TO,i1,i2]->s.heap.get? b=some o->h'.get? b=some o:=fun b o hb q=>kp b o (nin hb).1 (nin hb).2.1 (nin hb).2.2.1 (nin hb).2.2.2 q
   have trk:∀{b:Addr}{o:HO},H b=some o->b∉[z,TO,i1,i2]:=fun {b o} q hb=>by
    simp only[qAk,qA4,or_false] at hb
    rcases hb with rfl|rfl|rfl|rfl
    .rw[fz.1] at q;cases q
    .rw[fO.1] at q;cases q
    .rw[f1.1] at q;cases q
    .rw[f2.1] at q;cases q
   have hok2:HOk X.prog X.w H h':=fun b o q=>by
    refine(I.hok b o q).stay (fun c o hc' y=>old2 c o ?_ y) (fun _ y=>y) fun _ _ y=>y
    rcases hc' with rfl|hc'
    .exact trk q
    .exact trk hc'
   refine I.step (t':=s.toks) (g':=s.gens) (d':=s.drawn) (ch:=[z,TO,i1,i2]) (fun b hb=>?_) (fun b o _ _ hb q _=>old2 b o hb q) (fun b o _ _ hb q _=>#[o.slots,old2 b o hb q]) (fun b o _ q n=>n) (fun b o hb q=>#[o,old2 b o hb q])
    (fun b ys y=>y) (fun b o ys y=>y) (fun b ps y=>#[(List.toArray []),by rw[y];simp]) (fun m hm=>?_) hok2 I.bare
   .simp only[qAk,qA4,or_false] at hb
    rcases hb with rfl|rfl|rfl|rfl
    .exact#[fz.2.2.2.1,fz.2.1,fz.2.2.2.2.1,fz.2.2.2.2.2]
    .exact#[fO.2.2.2.1,fO.2.1,fO.2.2.2.2.1,fO.2.2.2.2.2]
    .exact#[f1.2.2.2.1,f1.2.1,f1.2.2.2.2.1,f1.2.2.2.2.2]
    .exact#[f2.2.2.2.1,f2.2.1,f2.2.2.2.2.1,f2.2.2.2.2.2]
   .obtain⟨o,es,ep,ho,r⟩:=hm
    refine#[o,es,ep,kp _ o (Ne.symm fz.2.1) (Ne.symm fO.2.1) (Ne.symm f1.2.1) (Ne.symm f2.2.1) ho,r]
 self:=fun A i s Q E st h=>wpAny_pyIter_zip st.1 h
section
variable {X:Cx}{pos:Pos}
def UE (K:W.Frag)(ta:TA):TI:=fun σ H R=>ta σ H fun vs H1=>∃a1 a2,vs=[.ref a1,.ref a2]/\∃b:Bool,(∃xs,SqB K b H1 a1 xs)/\(∃ys,SqL K H1 a2 ys)/\R (Itz K b false a1 a2) H1
theorem PQ {n l1 l2:Addr}(h1:l1<n) (h2:l2<n):ZAp (n+4) (n+2) (n+3) n (n+1) l1 l2:=by
 have up:∀{a:Addr}(j:Nat),a<n->a≠n+j:=fun {a} j h=>qAF (qAq h (qBG n j))
 have lt:∀{i j:Nat},i<j->n+i≠n+j:=fun h=>qAF (Nat.add_lt_add_left h n)
 have gt:∀{i j:Nat},j<i->n+i≠n+j:=fun h=>qBr (Nat.add_lt_add_left h n)
 exact#[#[lt ∅,lt ∅,lt (i:=0) ∅,lt ∅,up 4 h1,up 4 h2],#[lt ∅,lt (i:=0) ∅,lt ∅,up 3 h1,up 3 h2],#[gt (j:=0) ∅,gt (j:=0) ∅,up 0 h2,gt ∅,up 1 h1],#[up 0 h1,up 1 h2]]
theorem RV {e1 e2:Expr}{elts:List Expr}{x1:Nat}{tpos p:Pos}{ta:TA}(hg:Gl X "zip") (hm:X.mg "zip"=none) (ha:PA X [e1,e2] ta) (hs:starEach [e1,e2] X.env=[(false,eval e1 X.env),(false,eval e2 X.env)]:=by rfl) (hs2:starEach [e2] X.env=[(false,eval e2 X.env)]:=by rfl) :
 PI X (.Tuple elts x1 tpos) (.Call (.Name "zip" p) [e1,e2] [] pos) (UE X.K ta):=by
 intro pins s σ H R I h
 refine Call_ (FG I hg hm PyProof.Rows.boot_zip (qA9 (thn (ha pos pins s σ H _ I h) fun us s1 #[vs,H1,I1,r1,q1]=>?_) (by rw[hs,hs2]) (by rw[hs2];rfl)))
 obtain⟨a1,a2,e,b,⟨xs,h1⟩,⟨ys,h2⟩,q⟩:=q1
 subst e
 cases r1 with
 |cons r rr =>
  cases rr with
  |cons r' rr =>
   cases rr
   cases r
   cases r'
   obtain⟨its2,rv2,p2,hz2⟩:=I1.list h2
   have fin:∀h',IsZip h' (s1.heap.objs.size+4) (s1.heap.objs.size+2) (s1.heap.objs.size+3) .none->IsPair h' (s1.heap.objs.size+2) (.ref s1.heap.objs.size) (.ref (s1.heap.objs.size+1))->IsPair h' (s1.heap.objs.size+3) .none .none ->
    ItB b h' s1.heap.objs.size a1 0->ItB false h' (s1.heap.objs.size+1) a2 0->(∀c o,s1.heap.get? c=some o->h'.get? c=some o)->a1<s1.heap.objs.size->a2<s1.heap.objs.size ->
    wpAny (model X.prog X.w) X.A (pyIter (.ref (s1.heap.objs.size+4))) (PIE X pins σ (.Tuple elts x1 tpos) R) X.xe { s1 with heap:=h' }:=fun h' g1 g2 g3 g4 g5 old n1 n2=>by
    have I2:Inv X pins σ H1 { s1 with heap:=h' }:=I1.kept (t':=s1.toks) old
    refine wpAny_pyIter_zip (s:={ s1 with heap:=h' }) g1 ?_
    refine#[s1.heap.objs.size+4,_,_,_,H1,rfl,I2,Ny b false (PQ n1 n2),#[g1,g2,#[_,_,g3],g4,g5],fun c hc=>?_,q]
    have ge:s1.heap.objs.size<=c:=by
     simp only[qAk,qA4,or_false] at hc
     rcases hc with rfl|rfl|rfl|rfl|rfl
     .exact qBG _ 4
     .exact qBG _ 2
     .exact qBG _ 3
     .exact qAd _
     .exact qBG _ 1
    exact I1.fpOk ge (I1.hok.fresh ge)
   have n2:a2<s1.heap.objs.size:=by obtain⟨o,e,_⟩:=p2.isList;exact qAi e
   cases b with
   |true =>
    obtain⟨its1,rv1,p1,hz1⟩:=I1.tuple h1
    have t1:s1.heap.IsTuple a1 its1.toArray:=p1
    have n1:a1<s1.heap.objs.size:=by obtain⟨o,e,_⟩:=t1;exact qAi e
    exact Lv t1 p2.isList fun h' g1 g2 g3 g4 g5 old=>fin h' g1 g2 g3 g4 g5 old n1 n2
   |false =>
    obtain⟨its1,rv1,p1,hz1⟩:=I1.list h1
    have n1:a1<s1.heap.objs.size:=by obtain⟨o,e,_⟩:=p1.isList;exact qAi e
    exact call_zip_2 p1.isList p2.isList fun h' g1 g2 g3 g4 g5 _ old=>fin h' g1 g2 g3 g4 g5 old n1 n2
end
section
variable {X:Cx}{pins:List (Addr×Obj)}{σ:St}{H2:Hp}{s2:Shared}{x y':Str}{px py' pt:Pos}{kt:Nat}{tg:Expr}{scope:Scope}{N:List Str}{idx:List Nat}{J:It}{fp:List Addr}{it:Addr}{tn:Nat->Heap->Prop}{cl:List (Str×Addr)}
end
section
variable {X:Cx}{x y':Str}{px py' pt pos:Pos}{kt:Nat}{scope:Scope}{N:List Str}{idx:List Nat}{σ:St}{τ:Tau}{elt:Expr}{ta:TA3}{te:TE3}
variable {e1 e2:Expr}{np pn:Pos}
end
section
variable {X:Cx}{e st:Expr}{te ts:TE3}{pos p2:Pos}
end
section
variable {X:Cx}{pos:Pos}{e:Expr}{te tb:TE3}
end
section
variable {X:Cx}{e a b:Expr}{te ta tb:TE3}{pos:Pos}
end
end L3
namespace CH
open PySem L2 L3
section
variable {P O:Ps}{N:Nat}{a:Nat->Rat}{i j:Nat->Nat}{h g:Rat->Rat}
end
section
variable {B S:List Rat}{G:Ln2->Prop}{U:Rat->Prop}{k m:Nat}{ps os:List RP}{P O:Ps}{h g:Rat->Rat}{N:Nat}{a:Nat->Rat}{i j:Nat->Nat}
end
section
variable {cs:Cs}{m:Rat}
theorem G7 (o:Ord cs){a:Rat}(a0:0<=a):plc cs a cs.length<cs.length/\tt cs (plc cs a cs.length)<=a/\(plc cs a cs.length+1<cs.length->a<tt cs (plc cs a cs.length+1)):=by
 have s:=CG (cs:=cs) (t:=a) (by rw[o.t0];exact a0) cs.length o.ne
 exact#[s.2.1,s.1,fun z=>s.2.2 _ (qBs _) z]
end
section
variable {fc gc:Cs}{fm gm:Rat}
theorem KN {cs:Cs}(o:Ord cs){k:Nat}(h:k<cs.length):0<=tt cs k:=by
 have:=AN o.up (i:=0) (j:=k) () h
 rw[o.t0] at this
 exact this
end
theorem ON {k:Nat}{a b:Int}{x:Rat}(h:Wq k a b x):Rat.divInt a b=x:=by
 have hb:(b:Rat)≠0:=by have:=qBy.mpr h.pos;grind
 rw[qAE,h.eq]
 have k2:x*(b:Rat)/(b:Rat)*(b:Rat)=x*(b:Rat):=qCl hb
 have k3:(x*(b:Rat)/(b:Rat)-x)*(b:Rat)=0:=⋯
 rcases qBh.mp k3 with z|z
 .grind
 .exact absurd z hb
section
variable {fc gc:Cs}{fm gm:Rat}{a b c:Nat}
end
end CH
namespace L3
open PySem PySem.Spec PyProof.Rows L2
section
variable {P:Program}{w:World}{A:Around}{E:Value->Shared->Prop}{s:Shared}
variable {n l1 l2 l3:Nat}{us1 us2 us3:Array Value}{st1 st2 st3:Nat->Heap->Prop}
end
section
variable {P:Program}{w:World}{A:Around}{E:Value->Shared->Prop}{s:Shared}
variable {n l1 l2 l3:Nat}{us1 us2 us3:Array Value}{st1 st2 st3:Nat->Heap->Prop}
end
section
variable {P:Program}{w:World}{A:Around}{E:Value->Shared->Prop}{s:Shared}
end
section
variable {X:Cx}{pos:Pos}
end
end L3
namespace CH
open PySem L2 L3
section
variable {cs:Cs}{m σ:Rat}
end
section
variable {fc gc:Cs}{fm gm last:Rat}{W:List (Nat×Nat)}
end
section
variable {fc gc:Cs}{fm gm last:Rat}{W:List (Nat×Nat)}{i j:Nat}
end
section
variable {fc gc:Cs}{fm gm:Rat}{a b c:Nat}
theorem Sx {cs:Cs}{m t:Rat}(r:Ih cs m) (t0:0<=t):0<=val cs m t:=by
 have:=EH r qAc t0
 rw[F1 r.o] at this
 exact qAY r.o.v0 this
end
section
variable {fc gc:Cs}{fm gm last:Rat}{W:List (Nat×Nat)}{L:List D}{i j:Nat}
end
section
variable {fc gc:Cs}{fm gm last:Rat}{W:List (Nat×Nat)}
end
def Df (cs:Cs):Prop:=∀k,k+1<cs.length->∃e f,Sz e (tt cs (k+1)-tt cs k)/\Sz f (vv cs (k+1)-vv cs k)/\e+f<=13000
theorem Df.of {n:Nat}{cs:Cs}(h:SzC n cs) (hn:n<=3200):Df cs:=fun k hk =>
 #[_,_,(h _ hk).1.sub (h k ()).1,(h _ hk).2.sub (h k ()).2,()]
structure SzD (cs:Cs)(m:Rat):Prop where
 len:cs.length<=1000000
 df:Df cs
 cs:SzC 6400 cs
 m:Sz 6400 m
theorem SzK.d {n:Nat}{cs:Cs}{m:Rat}(h:SzK n cs m) (hn:n<=3200):SzD cs m:=#[h.len,Df.of h.cs hn,h.cs.mono (),h.m.mono ()]
theorem LS.df {a b c:Nat}{cs:Cs}{m:Rat}(z:LS a b c cs m) (o:Ord cs) (h:4*a+b+2<=13000):Df cs:=fun k hk=>by
 have t:=(z.tm _ hk).sub (z.tm k ())
 have s:=(z.ln o k ()).1
 have n:=Ef (o.up k hk)
 refine#[_,b+(a+a+1),t,?_,()]
 have:=s.mul t
 rw[CK hk,qCl n] at this
 exact this
theorem LS.szd {a b c:Nat}{cs:Cs}{m:Rat}(z:LS a b c cs m) (o:Ord cs) (hl:cs.length<=1000000) (h:a+b+c+1<=6400) (h4:4*a+b+2<=13000):SzD cs m :=
 have k:=z.szk o hl h
 #[hl,z.df o h4,k.cs,k.m]
section
variable {S0:List Rat}{cs ds fc gc:Cs}{m k fm gm last:Rat}
end
section
variable {S0:List Rat}{fc gc hc jc oc:Cs}{fm gm hm jm om:Rat}
end
section
variable {cs:Cs}{m e:Rat}
end
section
variable {cs:Cs}{m v K:Rat}
end
end CH
namespace L3
open PySem L2
section
variable {X:Cx}
end
section
variable {X:Cx}{e a b c o:Expr}{te ta tb tc to:TE3}{pos:Pos}{es:List Expr}{tr:TA3}
theorem NR {x:Str}{p:Pos}{T:String}{r:List S->(S->Prop)->Prop}(hc:Il X (.type T) r) (hg:Gl X x) (hm:X.mg x=none) (hv:bootBuiltins x=some (.type T)) (ha:PA3 X (e::es) tr) (hn:x≠"__name__":=by decide)
 (hdb:(x==("__debug__":Str))=false:=by decide) (he:starEach (e::es) X.env=(false,eval e X.env)::starEach es X.env:=by exact Ct rfl) (hpl:(backTo pos (starEach es X.env)).any (·.1)=false:=by exact DM rfl) :
 PE3 X (.Call (.Name x p) (e::es) [] pos) (vCB r tr):=#[Br (Co hc hg hm hv ha.out hn hdb he hpl) fun σ H Q hh=>by
  obtain⟨B,z,τ,R,r,ht,q⟩:=hh
  exact#[B,_,τ,_,r,ht,fun ss vs H1 e1 i1 h1=>#[H1.z,ss,R,e1.sub,i1,h1,fun s v H2 e2 i2 f2 h2=>q s v H2 (e1.trans e2) i2 (JH e1 f2) h2]]]
def Ry:List S->(S->Prop)->Prop:=fun ss R=>match ss with
 |[.d (.bl k)]=>R (.d (.int (if k then 1 else 0)))
 |_=>False
theorem R4:Il X (.type "int") Ry:=F9 Mc fun xs H Q hh=>by
 obtain⟨z,ss,R,hz,ha,h3,q⟩:=hh
 unfold Ry at h3
 split at h3
 .rename_i k
  obtain⟨v,rfl,h⟩:=L5 ha
  cases Is.bl_inv h
  exact .inr #[k,rfl,q (.d _) _ #[H,z] (Ext.refl hz) (Is.int _) EB h3]
 .exact h3.elim
end
end L3
namespace CH
open PySem L2 L3
theorem Cu {a b:Rat}(ha:0<a) (hb:0<b):∃d,0<d/\d<=a/\d<=b:=by
 by_cases c:a<=b
 .exact#[a,ha,qAc,c]
 .exact#[b,hb,⋯,qAc]
section
variable {cs C:Cs}{m M e t:Rat}
def Mv (cs:Cs)(m b c:Rat):Prop:=∃j,j<cs.length/\b=slp cs m j/\(c=vv cs j-b*tt cs j\/∃i,i<cs.length/\(c=vv cs j-b*tt cs j+b*tt cs i-vv cs i\/c=vv cs i-(vv cs j-b*tt cs j)-b*tt cs i))
def Gd (w:Int)(n:Nat)(q:Rat):Prop:=∃x:Int,q*(w:Rat)=(x:Rat)/\x.natAbs<2^n
theorem Gd.mono {w:Int}{n k:Nat}{q:Rat}(h:Gd w n q) (l:n<=k):Gd w k q:=by
 obtain⟨x,e,z⟩:=h
 exact#[x,e,AJ z l]
theorem Gd.add {w:Int}{n:Nat}{p q:Rat}(h:Gd w n p) (g:Gd w n q):Gd w (n+1) (p+q):=by
 obtain⟨x,e,z⟩:=h
 obtain⟨y,f,s⟩:=g
 refine#[x+y,by rw[qBm,<-e,<-f];grind,?_]
 rw[qBb];omega
theorem Gd.sub {w:Int}{n:Nat}{p q:Rat}(h:Gd w n p) (g:Gd w n q):Gd w (n+1) (p-q):=by
 obtain⟨x,e,z⟩:=h
 obtain⟨y,f,s⟩:=g
 refine#[x-y,by rw[qBg,<-e,<-f];grind,?_]
 rw[qBb];omega
theorem Gd.mul {w v:Int}{n k:Nat}{p q:Rat}(h:Gd w n p) (g:Gd v k q):Gd (w*v) (n+k) (p*q):=by
 obtain⟨x,e,z⟩:=h
 obtain⟨y,f,s⟩:=g
 exact#[x*y,by rw[qAl,qAl,<-e,<-f];grind,Ay z s]
theorem Gd.sz {w:Int}{n:Nat}{q:Rat}(h:Gd w n q) (w0:w≠0) (wn:w.natAbs<2^n):Sz n q:=by
 obtain⟨x,e,z⟩:=h
 have w1:(w:Rat)≠0:=fun z=>w0 (qBA.mp z)
 have:q=Rat.divInt x w:=by rw[qAE,<-e];grind
 rw[this]
 exact C8 w0 z wn
structure Gr (u p:Int)(cs:Cs)(m:Rat):Prop where
 u0:0<u/\u<=6
 p0:0<p/\p<=5
 tm:∀i,i<cs.length->Gd u 26 (tt cs i)
 sl:∀i,i<cs.length->Gd p 41 (slp cs m i)
 va:∀i,i<cs.length->Gd (u*p) 67 (vv cs i)
theorem Gr.mv {u p:Int}{b c:Rat}(g:Gr u p cs m) (h:Mv cs m b c):Gd p 41 b/\Gd (u*p) 70 c:=by
 obtain⟨j,hj,rfl,h⟩:=h
 have pr:∀i,i<cs.length->Gd (u*p) 67 (slp cs m j*tt cs i):=fun i hi=>by rw[Rat.mul_comm];exact(g.tm i hi).mul (g.sl j hj)
 have k:=(g.va j hj).sub (pr j hj)
 refine#[g.sl j hj,?_]
 rcases h with rfl|⟨i,hi,rfl|rfl⟩
 .exact k.mono ∅
 .exact(k.add ((pr i hi).mono ∅)).sub ((g.va i hi).mono ∅)
 .exact(((g.va i hi).mono ∅).sub k).sub ((pr i hi).mono ∅)
def Bow (e:Rat)(cs:Cs)(m:Rat):Prop:=∀i,i+1<cs.length->e*slp cs m (i+1)<=e*slp cs m i
end
theorem IT {L:Cs}{c:Rat×Rat}{M M':Rat}(n:0<L.length) (h:(c.2-vv L (L.length-1))/(c.1-tt L (L.length-1))=M){k:Nat}(hk:k<L.length):slp (L++[c]) M' k=slp L M k:=by
 rw[CK (show k+1<(L++[c]).length by rw[AR];omega),Jh hk,JT hk]
 by_cases e:k+1<L.length
 .rw[CK e,Jh e,JT e]
 .have:k+1=L.length:=()
  rw[AE e,this,KR,K8,<-h]
  have:k=L.length-1:=()
  rw[this]
theorem KH {w x:Int}{n:Nat}(w0:w≠0) (h:x.natAbs<2^n):Gd w n (Rat.divInt x w):=by
 have w1:(w:Rat)≠0:=fun z=>w0 (qBA.mp z)
 exact#[x,by rw[qAE];grind,h]
structure Dw (u p:Int)(B:Rat->Prop)(cs:Cs)(m:Rat):Prop where
 tm:∀i,i<cs.length->Gd u 26 (tt cs i)
 sl:∀i,i<cs.length->Gd p 41 (slp cs m i)
 va:∀i,i<cs.length->Gd (u*p) 67 (vv cs i)
 bend:∀k,k+1<cs.length->slp cs m k≠slp cs m (k+1)
 bow:∀e,B e->Bow e cs m
theorem Dw.one {u p:Int}{B:Rat->Prop}{v m:Rat}(hv:Gd (u*p) 67 v) (hm:Gd p 41 m):Dw u p B [(0,v)] m:=by
 have z:∀{i:Nat},i < [((0:Rat),v)].length->i=0:=fun {i} h=>by have:i<1:=h;omega
 refine#[fun i hi=>?_,fun i hi=>?_,fun i hi=>?_,fun k hk=>?_,fun e _ k hk=>?_]
 .rw[z hi];exact#[0,by show(0:Rat)*_=_;rw[qBC];rfl,∅]
 .rw[z hi,AE (by show ¬1<1;decide)];exact hm
 .rw[z hi];exact hv
 .have:k+1<1:=hk;omega
 .have:k+1<1:=hk;omega
theorem Dw.snoc {u p:Int}{B:Rat->Prop}{cs:Cs}{m m':Rat}{c:Rat×Rat}(h:Dw u p B cs m) (n:0<cs.length) (hs:(c.2-vv cs (cs.length-1))/(c.1-tt cs (cs.length-1))=m) (h1:Gd u 26 c.1) (h2:Gd (u*p) 67 c.2) (h3:Gd p 41 m') (ne:m≠m') (hB:∀e,B e->e*m'<=e*m):Dw u p B (cs++[c]) m':=by
 have ln:(cs++[c]).length=cs.length+1:=AR
 have so:slp (cs++[c]) m' cs.length=m':=AE (by rw[ln];omega)
 have sm:slp cs m (cs.length-1)=m:=AE ()
 refine#[fun i hi=>?_,fun i hi=>?_,fun i hi=>?_,fun k hk=>?_,fun e b k hk=>?_]
 all_goals rw[ln] at *
 .by_cases z:i<cs.length
  .rw[Jh z];exact h.tm i z
  .have:i=cs.length:=()
   subst this;rw[KR];exact h1
 .by_cases z:i<cs.length
  .rw[IT n hs z];exact h.sl i z
  .have:i=cs.length:=()
   subst this;rw[so];exact h3
 .by_cases z:i<cs.length
  .rw[JT z];exact h.va i z
  .have:i=cs.length:=()
   subst this;rw[K8];exact h2
 .rw[IT n hs ()]
  by_cases z:k+1<cs.length
  .rw[IT n hs z];exact h.bend k z
  .have:k+1=cs.length:=()
   rw[this,so,show k=cs.length-1 from (),sm];exact ne
 .rw[IT n hs (k:=k) ()]
  by_cases z:k+1<cs.length
  .rw[IT n hs z];exact h.bow e b k z
  .have:k+1=cs.length:=()
   rw[this,so,show k=cs.length-1 from (),sm];exact hB e b
section
variable {A B D F G:Rat->Rat}{P t:Rat}
end
end CH
namespace L3
open PySem PySem.Spec PyProof.Rows L2
section
variable {X:Cx}{pos:Pos}
end
section
variable {X:Cx}{pos:Pos}
def Te (τ:Tau)(j:Nat)(xs:List D):Prop:=τ[j]? = some (some (.r xs))\/τ[j]? = some (some (.d (.lst xs)))
theorem Te.get {B:HZ}{τ:Tau}{σ:St}{p:HZ}{j:Nat}{xs:List D}(r:Rep X B τ σ p) (h:Te τ j xs) :
 ∃a vs,σ[j]? = some (some (.ref a))/\SqL X.K p.h a vs/\Iss X.K p.z vs xs/\SqL X.K (Ie τ σ p.h) a vs:=by
 have key:∀{a:Addr}{vs:List V},SqL X.K p.h a vs->(∀(m:Nat)(ys:List D),τ[m]? = some (some (S.l ys))->σ[m]?≠some (some (V.ref a)))->SqL X.K (Ie τ σ p.h) a vs:=fun {a vs} hs hno=>by
  rcases hs with (hs|⟨o,hs⟩)|hs
  .exact .inl (.inl (by rw[Dt hno];exact hs))
  .exact .inl (.inr #[o,by rw[Dt hno];exact hs])
  .exact .inr hs
 rcases h with h|h
 .obtain⟨v,h1,h2⟩:=r.val j _ h
  obtain⟨a,vs,rfl,h3,h4⟩:=h2
  refine#[a,vs,h1,h3,h4,key h3 fun m ys hm hσ=>?_]
  by_cases e:m=j
  .subst e;rw[h] at hm;cases hm
  .exact r.sep m j ys (.r xs) a e hm h rfl hσ h1
 .obtain⟨v,h1,h2⟩:=r.val j _ h
  obtain⟨a,vs,rfl,h3,h4⟩:=Is.lst_inv h2
  exact#[a,vs,h1,r.ext.sub.seq h3,h4,key (r.ext.sub.seq h3) (Ft r h3)]
def SD (i1 i2:Nat)(xs ys:List D)(tb:TS3)(D3:HG)(τ0:Tau):Prop:=∃I:Nat->Tau->Prop,I 0 τ0 /\
 (∀n τ x y,xs[n]? = some x->ys[n]? = some y->I n τ->tb { D3 with nx:=I (n+1),ct:=I (n+1),bk:=D3.nx } ((τ.set i1 (some (.d x))).set i2 (some (.d y))))/\∀τ,I (min xs.length ys.length) τ->D3.nx τ
def TF (j1 j2 i1 i2:Nat)(tb:TS3):TS3:=fun D3 τ=>∃xs ys,Te τ j1 xs/\Te τ j2 ys/\SD i1 i2 xs ys tb D3 τ
theorem Sm {j1 j2 i1 i2:Nat}{x1 x2:Str}{p1 p2 pt pn pc:Pos}{kt:Nat}{body:List Stmt}{tb:TS3}{e1 e2:Expr}
 (h:PS X (.For (.Tuple [.Name x1 p1,.Name x2 p2] kt pt) (.Call (.Name "zip" pn) [e1,e2] [] pc) body [] pos) (NG (UE X.K (AY (Dd j1) (AY (Dd j2) GA))) (S4 X.K 2 (Jj (CC i1) (Jj (CC i2) SX))) (FS X tb))) (hp1:Dz X i1:=by first|exact CZ rfl|exact pin_ne rfl ∅|assumption) (hp2:Dz X i2:=by first|exact CZ rfl|exact pin_ne rfl ∅|assumption) :
 PS3 X (.For (.Tuple [.Name x1 p1,.Name x2 p2] kt pt) (.Call (.Name "zip" pn) [e1,e2] [] pc) body [] pos) (TF j1 j2 i1 i2 tb):=#[BK h fun D2 σ H hh=>by
 obtain⟨B,z,τ,D3,r,⟨xs,ys,hx,hy,I,i0,turn,out⟩,c⟩:=hh
 obtain⟨a1,vs1,g1,k1,iv1,b1⟩:=hx.get r
 obtain⟨a2,vs2,g2,k2,iv2,b2⟩:=hy.get r
 have l1:=iv1.1
 have l2:=iv2.1
 refine#[_,g1,_,g2,a1,a2,rfl,false,#[vs1,k1],#[vs2,k2],fun n m σ1 H1=>m=min vs1.length vs2.length-n/\n<=min vs1.length vs2.length/\∃z1 τ1,Rep X #[Ie τ σ H,z] τ1 σ1 #[H1,z1]/\I n τ1,#[_,rfl,qAS _,z,_,r.inB,i0],?_]
 rintro n m σ1 H1 ⟨rfl,hn,z1,τ1,r4,ih1⟩
 have q1:SqB X.K false H1 a1 vs1:=r4.ext.hh.seq b1
 have q2:SqB X.K false H1 a2 vs2:=r4.ext.hh.seq b2
 by_cases hlt:n<min vs1.length vs2.length
 .have c1:n<vs1.length:=()
  have c2:n<vs2.length:=()
  refine .inr #[#[vs1,vs2,vs1[n],vs2[n],q1,q2,by simp[c1],by simp[c2]],fun σ' H'=>∃z' τ',Rep X #[Ie τ σ H,z] τ' σ' #[H',z']/\I (n+1) τ',fun σ' H' p'=>#[min vs1.length vs2.length-(n+1),(),rfl,hlt,p'],fun x H' y=>?_]
  obtain⟨p,w1,w2,hp,rfl,y1,y2,rfl⟩:=y
  obtain⟨d1,f1,id1⟩:=Dl iv1 (y1 vs1 q1)
  obtain⟨d2,f2,id2⟩:=Dl iv2 (y2 vs2 q2)
  have r5:=r4.mono (Ext.own r4.ext.sub hp (.tup [w1,w2]))
  refine#[p,[w1,w2],rfl,.inl (.inl Aj),rfl,w1,[w2],rfl,w2,[],rfl,rfl,?_]
  exact#[_,_,_,_,(r5.setd (i:=i1) (id1.mono r4.ext.zz) hp1).setd (i:=i2) (id2.mono r4.ext.zz) hp2,turn n τ1 d1 d2 f1 f2 ih1,c.inB r.leB fun τ' σ' p' r' h'=>#[p'.z,τ',r',h']]
 .have e:n=min vs1.length vs2.length:=()
  subst e
  refine .inl #[#[vs1,vs2,q1,q2,()],c.nx _ _ _ (r4.outB r.leB) (out τ1 ?_)]
  rw[<-l1,<-l2]
  exact ih1]
end
end L3
namespace CH
open PySem
def Lin (D:Rat->Rat)(T:List Rat)(Ls:Rat->Rat->Prop):Prop:=∀x y,0<=x->x<y->(∀z∈T,¬(x<z/\z<y))->∃b c,Ls b c/\∀z,x<=z->z<=y->D z=b*z+c
theorem Q0 (l:List Rat)(q:Rat):∃e,0<e/\∀z∈l,¬(q<z/\z<q+e):=by
 induction l with
 |nil=>exact#[1,∅,fun z hz=>nomatch hz]
 |cons a r ih =>
  obtain⟨e,e0,h⟩:=ih
  by_cases c:q<a/\a<q+e
  .refine#[a-q,⋯,fun z hz=>?_]
   rcases qAk.mp hz with rfl|hz
   .grind
   .have:=h z hz
    grind
  .refine#[e,e0,fun z hz=>?_]
   rcases qAk.mp hz with rfl|hz
   .exact c
   .exact h z hz
theorem Qr (l:List Rat){s:Rat}(h:∃z∈l,z<s):∃t∈l,t<s/\∀z∈l,¬(t<z/\z<s):=by
 induction l with
 |nil=>obtain⟨z,hz,_⟩:=h;cases hz
 |cons a r ih =>
  by_cases c:∃z∈r,z<s
  .obtain⟨t,ht,ts,hn⟩:=ih c
   by_cases d:t<a/\a<s
   .refine#[a,qAO,d.2,fun z hz=>?_]
    rcases qAk.mp hz with rfl|hz
    .grind
    .have:=hn z hz
     grind
   .refine#[t,qAH _ ht,ts,fun z hz=>?_]
    rcases qAk.mp hz with rfl|hz
    .exact d
    .exact hn z hz
  .obtain⟨z,hz,zs⟩:=h
   rcases qAk.mp hz with rfl|hz
   .refine#[z,qAO,zs,fun y hy=>?_]
    rcases qAk.mp hy with rfl|hy
    .grind
    .exact fun q=>c #[y,hy,q.2]
   .exact absurd #[z,hz,zs] c
theorem RG (b:Rat){w:Rat}(h:0<w):∃d,0<d/\∀x,0<=x->x<=d->b*x<=w:=by
 by_cases c:b<=0
 .refine#[1,∅,fun x x0 _=>?_]
  have:=qAC (show 0<=-b from ⋯) x0
  grind
 .have b0:0<b:=qBT.mp c
  refine#[w/b,by rw[Rat.div_def];exact qBc h (Rat.inv_pos.mpr b0),fun x x0 xd=>?_]
  have h2:=qAC (qAp b0) (show 0<=w/b-x from ⋯)
  have h3:b*(w/b)=w:=⋯
  grind
theorem C3 {C:Cs}{M:Rat}(k:Crv C M):Ih C M:=#[#[k.ne,k.t0,k.v0,k.up,k.vu],k.m0]
section
variable {D:Rat->Rat}{T:List Rat}{Ls:Rat->Rat->Prop}{C:Cs}{M:Rat}
theorem Dj {i:Nat}{x:Rat}(k:Crv C M) (hi:i<C.length) (h1:tt C i<=x) (h2:i+1<C.length->x<=tt C (i+1)):val C M x=vv C i+slp C M i*(x-tt C i):=Bu k.up #[hi,h1,h2]
theorem Lr (k:Crv C M){i:Nat}(hi:i<C.length){e:Rat}(e0:0<e):∃d,0<d/\d<=e/\(i+1<C.length->tt C i+d<=tt C (i+1)):=by
 by_cases c:i+1<C.length
 .have:=k.up i c
  obtain⟨d,d0,d1,d2⟩:=Cu e0 (show 0<tt C (i+1)-tt C i from ⋯)
  exact#[d,d0,d1,fun _=>⋯]
 .exact#[e,e0,qAc,fun h=>absurd h c]
theorem KO (k:Crv C M){x y:Rat}(x0:0<=x) (h:x<=y):val C M x<=val C M y:=EH (C3 k) x0 h
theorem Uy (lin:Lin D T Ls)(k:Crv C M)(H:∀t,0<=t->IsL D t (val C M t)){q:Rat}(q0:0<=q) (h:D q<val C M q):∃d,0<d/\∀z,q<=z->z<=q+d->val C M z=val C M q:=by
 obtain⟨e,e0,he⟩:=Q0 T q
 obtain⟨b,c,_,hl⟩:=lin q (q+e) q0 ⋯ he
 obtain⟨d,d0,hd⟩:=RG b (show 0<val C M q-D q from ⋯)
 obtain⟨g,g0,g1,g2⟩:=Cu e0 d0
 refine#[g,g0,fun z z1 z2=>qBz ?_ (KO k q0 z1)]
 have I:=H z ⋯
 have J:=H q q0
 rcases I.2.1 with v|⟨s,s0,sz,v⟩
 .rw[v];exact J.1
 .rw[<-v]
  by_cases c2:s<=q
  .exact J.2.2 s s0 c2
  .have e1:=hl s ⋯ ⋯
   have e2:=hl q qAc ⋯
   have:=hd (s-q) ⋯ ⋯
   grind
theorem U9 (lin:Lin D T Ls)(k:Crv C M)(H:∀t,0<=t->IsL D t (val C M t)){q:Rat}(q0:0<q) (h:D q<val C M q):∃d,0<d/\d<=q/\∀z,q-d<=z->z<=q+d->val C M z=val C M q:=by
 obtain⟨d,d0,hd⟩:=Uy lin k H (qAp q0) h
 have J:=H q (qAp q0)
 have left:∃g,0<g/\g<=q/\∀z,q-g<=z->z<=q->val C M z=val C M q:=by
  rcases J.2.1 with v|⟨s,s0,sq,v⟩
  .refine#[q,q0,qAc,fun z z1 z2=>?_]
   have a:=(H z ⋯).1
   have b:=KO k (show 0<=z from ⋯) z2
   grind
  .have ne:s≠q:=fun z=>by rw[z] at v;grind
   refine#[q-s,⋯,⋯,fun z z1 z2=>qBz (KO k ⋯ z2) ?_]
   rw[<-v]
   exact(H z ⋯).2.2 s s0 ⋯
 obtain⟨g,g0,g1,hg⟩:=left
 obtain⟨f,f0,f1,f2⟩:=Cu d0 g0
 refine#[f,f0,⋯,fun z z1 z2=>?_]
 by_cases c:z<=q
 .exact hg z ⋯ c
 .exact hd z ⋯ ⋯
theorem Iw (k:Crv C M){i:Nat}(hi:i<C.length){d:Rat}(d0:0<d) (h:∀z,tt C i<=z->z<=tt C i+d->val C M z=val C M (tt C i)):slp C M i=0:=by
 obtain⟨g,g0,g1,g2⟩:=Lr k hi d0
 have a:=h (tt C i+g) ⋯ ⋯
 rw[Dj k hi ⋯ g2,DK (C3 k).o hi] at a
 have:slp C M i*g=0:=⋯
 rcases qBh.mp this with z|z
 .exact z
 .grind
theorem L1 (k:Crv C M){i:Nat}(hi:i+1<C.length){x:Rat}(h1:tt C i<=x) (h2:x<tt C (i+1)) (h:val C M x=val C M (tt C (i+1))):slp C M i=0:=by
 rw[Dj k () h1 (fun _=>⋯),Dj k (show i<C.length from ()) (by have:=k.up i hi;grind) (fun _=>qAc)] at h
 have:slp C M i*(tt C (i+1)-x)=0:=⋯
 rcases qBh.mp this with z|z
 .exact z
 .grind
theorem PN (k:Crv C M){i:Nat}(hi:i+1<C.length){d:Rat}(d0:0<d) (h:∀z,tt C (i+1)-d<=z->z<=tt C (i+1)+d->val C M z=val C M (tt C (i+1))):False:=by
 have u:=k.up i hi
 refine k.bend i hi ?_
 rw[Iw k hi d0 fun z z1 z2=>h z ⋯ z2]
 obtain⟨g,g0,g1,g2⟩:=Cu d0 (show 0<tt C (i+1)-tt C i from ⋯)
 exact L1 k hi (x:=tt C (i+1)-g) ⋯ ⋯ (h _ ⋯ ⋯)
theorem TZ (lin:Lin D T Ls)(k:Crv C M)(H:∀t,0<=t->IsL D t (val C M t)){i:Nat}(hi:i+1<C.length):D (tt C (i+1))=val C M (tt C (i+1)):=by
 have u:=k.up i hi
 have t0:0<=tt C i:=Fm k ()
 have le:=(H (tt C (i+1)) ⋯).2.2 (tt C (i+1)) ⋯ qAc
 by_cases c:D (tt C (i+1))<val C M (tt C (i+1))
 .obtain⟨d,d0,_,hd⟩:=U9 lin k H ⋯ c
  exact(PN k hi d0 hd).elim
 .grind
theorem MY (k:Crv C M)(H:∀t,0<=t->IsL D t (val C M t)){x y b c:Rat}(x0:0<=x) (xy:x<=y) (hx:D x=val C M x) (hl:∀z,x<=z->z<=y->D z=b*z+c):val C M y=if b<=0 then val C M x else D y:=by
 have I:=H y ⋯
 have J:=H x x0
 have ex:=hl x qAc xy
 have ey:=hl y xy qAc
 have up:=KO k x0 xy
 split
 .rename_i b0
  refine qBz ?_ up
  rcases I.2.1 with v|⟨s,s0,sy,v⟩
  .rw[v];exact J.1
  .rw[<-v]
   by_cases q:s<=x
   .exact J.2.2 s s0 q
   .have es:=hl s ⋯ sy
    have:=qAC (show 0<=-b from ⋯) (show 0<=s-x from ⋯)
    grind
 .rename_i b0
  have b0:0<b:=qBT.mp b0
  refine qBz ?_ (I.2.2 y ⋯ qAc)
  have dy:D x<=D y:=by
   have:=qAC (qAp b0) (show 0<=y-x from ⋯)
   grind
  rcases I.2.1 with v|⟨s,s0,sy,v⟩
  .rw[v]
   have:=J.1
   grind
  .rw[<-v]
   by_cases q:s<=x
   .have:=J.2.2 s s0 q
    grind
   .have es:=hl s ⋯ sy
    have:=qAC (qAp b0) (show 0<=y-s from ⋯)
    grind
theorem Ff (k:Crv C M)(H:∀t,0<=t->IsL D t (val C M t)){i:Nat}(hi:i<C.length){e b c:Rat}(e0:0<e) (hx:D (tt C i)=val C M (tt C i)) (hl:∀z,tt C i<=z->z<=tt C i+e->D z=b*z+c):slp C M i=if b<=0 then 0 else b:=by
 obtain⟨g,g0,g1,g2⟩:=Lr k hi e0
 have t0:=Fm k hi
 have a:=MY k H (y:=tt C i+g) t0 ⋯ hx fun z z1 z2=>hl z z1 ⋯
 rw[Dj k hi ⋯ g2] at a
 have v:=DK (m:=M) (C3 k).o hi
 have ex:=hl (tt C i) qAc ⋯
 have ey:=hl (tt C i+g) ⋯ ⋯
 split at a
 .rename_i b0
  rw[if_pos b0]
  have:slp C M i*g=0:=⋯
  rcases qBh.mp this with z|z
  .exact z
  .grind
 .rename_i b0
  rw[if_neg b0]
  have:(slp C M i-b)*g=0:=⋯
  rcases qBh.mp this with z|z
  .grind
  .grind
theorem Q5 (lin:Lin D T Ls)(k:Crv C M)(H:∀t,0<=t->IsL D t (val C M t)){i:Nat}(hi:i+2<C.length):∃z∈T,tt C (i+1)<z/\z<=tt C (i+2):=by
 by_cases hT:tt C (i+2)∈T
 .exact#[_,hT,k.up (i+1) hi,qAc]
 refine Classical.byContradiction fun no=>?_
 have u1:=k.up i ()
 have u2:=k.up (i+1) hi
 have t0:=Fm k (show i<C.length from ())
 obtain⟨e,e0,he⟩:=Q0 T (tt C (i+2))
 obtain⟨b,c,_,hl⟩:=lin (tt C (i+1)) (tt C (i+2)+e) ⋯ ⋯ (fun z hz q=>by
  by_cases c1:z<=tt C (i+2)
  .exact no #[z,hz,q.1,c1]
  .exact he z hz #[⋯,q.2])
 have dp:=TZ lin k H (i:=i+1) hi
 have dq:=TZ lin k H (i:=i) ()
 have s2:=Ff k H (i:=i+2) hi e0 dp fun z z1 z2=>hl z ⋯ z2
 obtain⟨d,d0,hd⟩:∃d,0<d/\tt C (i+1)+d=tt C (i+2):=#[tt C (i+2)-tt C (i+1),⋯,⋯]
 have s1:=Ff k H (i:=i+1) () d0 dq fun z z1 z2=>hl z z1 ⋯
 exact k.bend (i+1) hi (s1.trans s2.symm)
theorem Gb {α:Type} [DecidableEq α]:∀{a b:List α},a.Nodup->(∀x∈a,x∈b)->a.length<=b.length
 |[],b,_,_=>qAS _
 |x::a,b,n,h=>by
  have hx:=h x qAO
  have n':=qBl.mp n
  have:=Gb (a:=a) (b:=b.erase x) n'.2 fun y hy=>(List.mem_erase_of_ne (fun z=>n'.1 (by rw[<-z];exact hy))).mpr (h y (qAH _ hy))
  rw[List.length_erase_of_mem hx] at this
  have:0<b.length:=qB0 hx
  rw[qAU]
  omega
theorem L7 (lin:Lin D T Ls)(h0:(0:Rat)∈T)(k:Crv C M)(H:∀t,0<=t->IsL D t (val C M t)):C.length<=T.length+1:=by
 by_cases c:C.length<=2
 .have:=qB0 h0
  omega
 obtain⟨f,hf⟩:∃f:Nat->Rat,∀i,i+2<C.length->f i∈T/\tt C (i+1)<f i/\f i<=tt C (i+2):=by
  refine#[fun i=>if h:i+2<C.length then Classical.choose (Q5 lin k H h) else 0,fun i hi=>?_]
  have:=Classical.choose_spec (Q5 lin k H hi)
  simp only[dif_pos hi]
  exact this
 have key:=Gb (a:=0::(List.range (C.length-2)).map f) (b:=T) ?_ ?_
 .rw[qAU,qAa,qAt] at key
  omega
 .rw[qBl]
  refine#[fun z=>?_,?_]
  .obtain⟨i,hi,e⟩:=qAL.mp z
   rw[qAN] at hi
   have:=(hf i ()).2.1
   have u:=k.up i ()
   have t0:=Fm k (show i<C.length from ())
   grind
  .refine List.pairwise_map.mpr (List.Pairwise.imp_of_mem ?_ List.pairwise_lt_range)
   intro i j hi hj ij e
   rw[qAN] at hi hj
   have a:=(hf i ()).2.2
   have b:=(hf j ()).2.1
   have mono:tt C (i+2)<=tt C (j+1):=AN k.up () ()
   grind
 .intro x hx
  rcases qAk.mp hx with rfl|hx
  .exact h0
  .obtain⟨i,hi,rfl⟩:=qAL.mp hx
   rw[qAN] at hi
   exact(hf i ()).1
theorem Uc (lin:Lin D T Ls)(h0:(0:Rat)∈T)(k:Crv C M)(H:∀t,0<=t->IsL D t (val C M t)){x:Rat}(x0:0<=x):val C M x=0\/(∃z∈T,D z=val C M x)\/D x=val C M x:=by
 have J:=H x x0
 rcases J.2.1 with v|⟨s,s0,sx,v⟩
 .exact .inl v
 by_cases e:s=x
 .rw[e] at v;exact .inr (.inr v)
 by_cases sT:s∈T
 .exact .inr (.inl #[s,sT,v])
 have sp:0<s:=by
  have:s≠0:=fun z=>sT (z ▸ h0)
  grind
 obtain⟨t,tT,ts,tn⟩:=Qr T #[0,h0,sp]
 obtain⟨g,g0,hg⟩:=Q0 T s
 obtain⟨d,d0,d1,d2⟩:=Cu g0 (show 0<x-s from ⋯)
 by_cases t0:0<=t
 .obtain⟨b,c,_,hl⟩:=lin t (s+d) t0 ⋯ (fun z hz q=>by
   by_cases c1:z<s
   .exact tn z hz #[q.1,c1]
   .have:z≠s:=fun y=>sT (y ▸ hz)
    exact hg z hz #[⋯,⋯])
  have a1:=J.2.2 (s+d) ⋯ ⋯
  have a2:=J.2.2 t t0 ⋯
  have e1:=hl (s+d) ⋯ qAc
  have e2:=hl t qAc ⋯
  have e3:=hl s ⋯ ⋯
  have b1:¬0<b:=fun b0=>by
   have:=qBc b0 d0
   grind
  have b2:¬b<0:=fun b0=>by
   have:=qBc (show 0 < -b from ⋯) (show 0<s-t from ⋯)
   grind
  have:b=0:=⋯
  refine .inr (.inl #[t,tT,?_])
  rw[e2,<-v,e3,this]
  grind
 .exact absurd #[⋯,sp] (tn 0 h0)
theorem OB (lin:Lin D T Ls)(h0:(0:Rat)∈T)(k:Crv C M)(H:∀t,0<=t->IsL D t (val C M t)){i:Nat}(hi:i<C.length):Ls (slp C M i) (vv C i-slp C M i*tt C i)\/(slp C M i=0/\(vv C i=0\/∃z∈T,D z=vv C i)):=by
 have t0:=Fm k hi
 have v:=DK (m:=M) (C3 k).o hi
 obtain⟨e,e0,he⟩:=Q0 T (tt C i)
 by_cases c1:D (tt C i)=val C M (tt C i)
 .obtain⟨b,c,lb,hl⟩:=lin (tt C i) (tt C i+e) t0 ⋯ he
  have s:=Ff k H hi e0 c1 hl
  have ex:=hl (tt C i) qAc ⋯
  by_cases b0:b<=0
  .rw[if_pos b0] at s
   refine .inr #[s,?_]
   by_cases xT:tt C i∈T
   .exact .inr #[_,xT,by rw[c1,v]]
   have xp:0<tt C i:=by
    have:tt C i≠0:=fun z=>xT (z ▸ h0)
    grind
   obtain⟨t,tT,ts,tn⟩:=Qr T #[0,h0,xp]
   by_cases tt0:0<=t
   .obtain⟨b',c',_,hl'⟩:=lin t (tt C i+e) tt0 ⋯ (fun z hz q=>by
     by_cases c2:z<tt C i
     .exact tn z hz #[q.1,c2]
     .have:z≠tt C i:=fun y=>xT (y ▸ hz)
      exact he z hz #[⋯,q.2])
    have a2:=(H (tt C i) t0).2.2 t tt0 ⋯
    have e2:=hl' t qAc ⋯
    have e3:=hl' (tt C i) ⋯ ⋯
    have e4:=hl' (tt C i+e) ⋯ qAc
    have e5:=hl (tt C i+e) ⋯ qAc
    have bb:(b'-b)*e=0:=⋯
    have:b'=b:=by
     rcases qBh.mp bb with z|z
     .grind
     .grind
    have b2:¬b'<0:=fun b0=>by
     have:=qBc (show 0 < -b' from ⋯) (show 0<tt C i-t from ⋯)
     grind
    have bz:b'=0:=⋯
    refine .inr #[t,tT,?_]
    rw[<-v,<-c1,e2,e3,bz]
    grind
   .exact absurd #[⋯,xp] (tn 0 h0)
  .rw[if_neg b0] at s
   left
   rw[s]
   have:vv C i-b*tt C i=c:=by rw[<-v,<-c1,ex];grind
   rw[this]
   exact lb
 .have le:=(H (tt C i) t0).2.2 (tt C i) t0 qAc
  obtain⟨d,d0,hd⟩:=Uy lin k H t0 (show D (tt C i)<val C M (tt C i) from ⋯)
  refine .inr #[Iw k hi d0 hd,?_]
  rw[<-v]
  rcases Uc lin h0 k H t0 with q|q|q
  .exact .inl q
  .exact .inr q
  .exact absurd q c1
end
theorem Hy {cs:Cs}{m:Rat}(o:Ord cs):Lin (val cs m) ((List.range cs.length).map (tt cs)) (fun b c=>∃j,j<cs.length/\b=slp cs m j/\c=vv cs j-slp cs m j*tt cs j):=by
 intro x y x0 xy hn
 obtain⟨p1,p2,p3⟩:=G7 o x0
 generalize plc cs x cs.length=j at p1 p2 p3
 refine#[_,_,#[j,p1,rfl,rfl],fun z z1 z2=>?_]
 rw[Bu o.up (k:=j) #[p1,⋯,fun h=>?_]]
 .grind
 .have:=hn (tt cs (j+1)) (qAL.mpr #[j+1,qAN.mpr h,rfl])
  have:=p3 h
  grind
theorem Lin.sub {D E:Rat->Rat}{T U:List Rat}{Ls Lt:Rat->Rat->Prop}(h:Lin D T Ls) (g:Lin E U Lt):Lin (fun x=>D x-E x) (T++U) (fun b c=>∃b1 c1 b2 c2,Ls b1 c1/\Lt b2 c2/\b=b1-b2/\c=c1-c2):=by
 intro x y x0 xy hn
 obtain⟨b1,c1,l1,e1⟩:=h x y x0 xy fun z hz=>hn z (qAu.mpr (.inl hz))
 obtain⟨b2,c2,l2,e2⟩:=g x y x0 xy fun z hz=>hn z (qAu.mpr (.inr hz))
 refine#[_,_,#[b1,c1,b2,c2,l1,l2,rfl,rfl],fun z z1 z2=>?_]
 show D z-E z=_
 rw[e1 z z1 z2,e2 z z1 z2]
 grind
def Lg (n1 n2:Nat)(b c:Rat):Prop:=Gd 60 n1 b/\Gd 3600 n2 c
theorem Mj {y:Int}(h:y≠0):(y:Rat)≠0:=fun z=>h (qBA.mp z)
theorem Mp {n:Nat}{q:Rat}{x w:Int}(w0:w≠0) (e:q*(w:Rat)=(x:Rat)) (hx:x.natAbs<2^n) (hw:w.natAbs<2^n):Sz n q:=Gd.sz #[x,e,hx] w0 hw
section
variable {n:Nat}{g:Cp}{fs:List Cp}
end
section
variable {n k:Nat}{g r:Cp}{fs:List Cp}
end
section
variable {fc rc dc:Cs}{fm rm dm:Rat}
end
section
variable {g l q:Cp}{fs:List Cp}{k:Nat}
end
theorem Qc {w v:Int}{n k:Nat}{q:Rat}(c:Int) (h:Gd w n q) (e:w*c=v) (hc:c.natAbs<2^k):Gd v (n+k) q:=by
 obtain⟨x,ex,zx⟩:=h
 refine#[x*c,?_,Ay zx hc]
 rw[qAl,<-ex,<-e,qAl]
 grind
theorem Pt {u:Int}(h:0<u/\u<=6):∃c:Int,u*c=60/\c.natAbs<2^6:=by
 rcases(show u=1\/u=2\/u=3\/u=4\/u=5\/u=6 from ()) with rfl|rfl|rfl|rfl|rfl|rfl
 .exact#[60,∅,∅]
 .exact#[30,∅,∅]
 .exact#[20,∅,∅]
 .exact#[15,∅,∅]
 .exact#[12,∅,∅]
 .exact#[10,∅,∅]
theorem T7 {cs:Cs}{m b c:Rat}{u p:Int}(g:Gr u p cs m) (h:Mv cs m b c):Lg 47 82 b c:=by
 obtain⟨h1,h2⟩:=g.mv h
 obtain⟨a,ea,za⟩:=Pt g.u0
 obtain⟨d,ed,zd⟩:=Pt (u:=p) #[g.p0.1,by have:=g.p0.2;omega]
 refine#[Qc (k:=6) d h1 ed zd,Qc (k:=12) (a*d) h2 ?_ (Ay za zd)]
 rw[show u*p*(a*d)=(u*a)*(p*d) by rw[qCo,qCo,<-qCo p a d,Int.mul_comm p a,qCo a p d],ea,ed]
 decide
def Cup (f:Rat->Rat)(z:Rat):Prop:=∃e,0<e/\e<=z/\∀d,0<=d->d<=e->f z-f (z-d)<=f (z+d)-f z
theorem SF {P:Rat->Prop}(l:List Rat) (h:∃z∈l,P z):∃m∈l,P m/\∀z∈l,P z->m<=z:=by
 induction l with
 |nil=>obtain⟨z,hz,_⟩:=h;cases hz
 |cons a r ih =>
  by_cases c:∃z∈r,P z
  .obtain⟨m,hm,pm,lo⟩:=ih c
   by_cases d:P a/\a<m
   .refine#[a,qAO,d.1,fun z hz pz=>?_]
    rcases qAk.mp hz with rfl|hz
    .exact qAc
    .have:=lo z hz pz
     have:=d.2
     grind
   .refine#[m,qAH _ hm,pm,fun z hz pz=>?_]
    rcases qAk.mp hz with rfl|hz
    .exact qAR.mp fun q=>d #[pz,q]
    .exact lo z hz pz
  .obtain⟨z,hz,pz⟩:=h
   rcases qAk.mp hz with rfl|hz
   .refine#[z,qAO,pz,fun y hy py=>?_]
    rcases qAk.mp hy with rfl|hy
    .exact qAc
    .exact absurd #[y,hy,py] c
   .exact absurd #[z,hz,pz] c
section
variable {D:Rat->Rat}{T:List Rat}{Ls:Rat->Rat->Prop}{G:Rat->Prop}{C:Cs}{M:Rat}
theorem Je (lin:Lin D T Ls)(h0:(0:Rat)∈T)(hg:∀z,0<z->G z\/Cup D z){x v s:Rat}(mx:∀s,0<=s->s<=x->D s<=v) (s0:0<s) (sx:s<x) (e:D s=v):G s\/∃t∈T,(0<=t/\t<s)/\D t=v:=by
 rcases hg s s0 with g|⟨e',e0,es,cv⟩
 .exact .inl g
 right
 obtain⟨t,tT,ts,tn⟩:=Qr T #[0,h0,s0]
 have t0:0<=t:=qAR.mp fun q=>tn 0 h0 #[q,s0]
 refine#[t,tT,#[t0,ts],?_]
 obtain⟨b,c,_,hl⟩:=lin t s t0 ts tn
 obtain⟨d1,d10,d11,d12⟩:=Cu e0 (show 0<x-s from ⋯)
 obtain⟨d,d0,d2,d3⟩:=Cu d10 (show 0<s-t from ⋯)
 have c1:=cv d ⋯ ⋯
 have m1:=mx (s+d) ⋯ ⋯
 have m2:=mx (s-d) ⋯ ⋯
 have e1:=hl s ⋯ qAc
 have e2:=hl (s-d) ⋯ ⋯
 have e3:=hl t qAc ⋯
 have z:b*d=0:=⋯
 have:b=0:=by
  rcases qBh.mp z with z|z
  .exact z
  .grind
 subst this
 grind
theorem OD (lin:Lin D T Ls)(h0:(0:Rat)∈T)(hg:∀z,0<z->G z\/Cup D z){x v s:Rat}(mx:∀s,0<=s->s<=x->D s<=v) (s0:0<=s) (sx:s<x) (e:D s=v):∃z,0<=z/\z<=s/\(z=0\/G z)/\D z=v:=by
 by_cases sz:s=0
 .exact#[s,s0,qAc,.inl sz,e]
 rcases Je lin h0 hg mx (show 0<s from ⋯) sx e with g|h
 .exact#[s,s0,qAc,.inr g,e]
 obtain⟨t,tT,⟨⟨t0,ts⟩,et⟩,lo⟩:=SF T (P:=fun t=>(0<=t/\t<s)/\D t=v) h
 by_cases tz:t=0
 .exact#[t,t0,qAp ts,.inl tz,et]
 rcases Je lin h0 hg mx (show 0<t from ⋯) ⋯ et with g|⟨u,uT,⟨u0,ut⟩,eu⟩
 .exact#[t,t0,qAp ts,.inr g,et]
 .have:=lo u uT #[#[u0,⋯],eu]
  grind
def Nf (D:Rat->Rat)(G:Rat->Prop)(v:Rat):Prop:=v=0\/∃z,0<=z/\(z=0\/G z)/\D z=v
theorem Iu (lin:Lin D T Ls)(h0:(0:Rat)∈T)(hg:∀z,0<z->G z\/Cup D z){L:Rat->Rat}(H:∀t,0<=t->IsL D t (L t)){x y:Rat}(x0:0<=x) (xy:x<y) (e:L x=L y):Nf D G (L x):=by
 rcases(H x x0).2.1 with v|⟨s,s0,sx,v⟩
 .exact .inl v
 .obtain⟨z,z0,_,gz,ez⟩:=OD lin h0 hg (x:=y) (v:=L x) (fun s s0 sy=>by rw[e];exact(H y ⋯).2.2 s s0 sy) s0 ⋯ v
  exact .inr #[z,z0,gz,ez]
theorem Ik (lin:Lin D T Ls)(hg:∀z,0<z->G z\/Cup D z)(k:Crv C M)(H:∀t,0<=t->IsL D t (val C M t)){i:Nat}(hi:i+1<C.length) (lt:slp C M (i+1)<slp C M i):G (tt C (i+1)):=by
 have u:=k.up i hi
 have t0:=Fm k (show i<C.length from ())
 rcases hg (tt C (i+1)) ⋯ with g|⟨e,e0,ez,cv⟩
 .exact g
 exfalso
 have dz:=TZ lin k H hi
 obtain⟨d1,d10,d11,d12⟩:=Cu e0 (show 0<tt C (i+1)-tt C i from ⋯)
 obtain⟨d,d0,d2,d3⟩:=Lr k hi d10
 have c1:=cv d ⋯ ⋯
 have l1:=(H (tt C (i+1)-d) ⋯).2.2 _ ⋯ qAc
 have l2:=(H (tt C (i+1)+d) ⋯).2.2 _ ⋯ qAc
 rw[Dj k (show i<C.length from ()) ⋯ (fun _=>⋯)] at l1
 rw[Dj k hi ⋯ d3] at l2
 have v1:=DK (m:=M) (C3 k).o hi
 have v2:=Dj k (x:=tt C (i+1)) (show i<C.length from ()) ⋯ (fun _=>qAc)
 have m:=qBc (show 0<slp C M i-slp C M (i+1) from ⋯) d0
 grind
theorem Ms (lin:Lin D T Ls)(h0:(0:Rat)∈T)(hg:∀z,0<z->G z\/Cup D z)(k:Crv C M)(H:∀t,0<=t->IsL D t (val C M t)){i:Nat}(hi:i<C.length):Ls (slp C M i) (vv C i-slp C M i*tt C i)\/(slp C M i=0/\Nf D G (vv C i)):=by
 rcases OB lin h0 k H hi with h|⟨h,_⟩
 .exact .inl h
 .obtain⟨d,d0,d1,d2⟩:=Lr k hi (show(0:Rat)<1 from ∅)
  have t0:=Fm k hi
  have v:=DK (m:=M) (C3 k).o hi
  have w:=Dj k (x:=tt C i+d) hi ⋯ d2
  refine .inr #[h,?_]
  rw[<-v]
  exact Iu lin h0 hg H (y:=tt C i+d) t0 ⋯ (by rw[w,v,h];grind)
end
theorem DP {C:Cs}{M z:Rat}(k:Crv C M) (z0:0<z):∃e s1 s2,0<e/\e<=z/\(∀d,0<=d->d<=e->val C M (z+d)=val C M z+s2*d/\val C M (z-d)=val C M z-s1*d)/\(s1=s2\/∃i,i+1<C.length/\tt C (i+1)=z/\slp C M i=s1/\slp C M (i+1)=s2):=by
 obtain⟨p1,p2,p3⟩:=G7 (C3 k).o (qAp z0)
 generalize plc C z C.length=j at p1 p2 p3
 obtain⟨e,e0,he⟩:∃e,0<e/\(j+1<C.length->z+e<=tt C (j+1)):=by
  by_cases c:j+1<C.length
  .exact#[tt C (j+1)-z,by have:=p3 c;grind,fun _=>⋯]
  .exact#[1,∅,fun h=>absurd h c]
 by_cases eq:tt C j=z
 .cases j with
  |zero=>rw[k.t0] at eq;grind
  |succ i =>
   have u:=k.up i p1
   have t0:=Fm k (show i<C.length from ())
   obtain⟨d,d0,d1,d2⟩:=Cu e0 (show 0<z-tt C i from ⋯)
   refine#[d,slp C M i,slp C M (i+1),d0,⋯,fun x x0 xd=>#[?_,?_],.inr #[i,p1,eq,rfl,rfl]]
   .rw[Dj k p1 (show tt C (i+1)<=z+x from ⋯) (fun h=>by have:=he h;grind),Dj k p1 (show tt C (i+1)<=z from ⋯) (fun h=>by have:=he h;grind)]
    grind
   .rw[Dj k (show i<C.length from ()) (show tt C i<=z-x from ⋯) (fun _=>⋯),Dj k (show i<C.length from ()) (show tt C i<=z from ⋯) (fun _=>⋯)]
    grind
 .have tz:tt C j<z:=⋯
  have t0:=Fm k p1
  obtain⟨d,d0,d1,d2⟩:=Cu e0 (show 0<z-tt C j from ⋯)
  refine#[d,slp C M j,slp C M j,d0,⋯,fun x x0 xd=>#[?_,?_],.inl rfl]
  .rw[Dj k p1 (show tt C j<=z+x from ⋯) (fun h=>by have:=he h;grind),Dj k p1 (show tt C j<=z from ⋯) (fun h=>by have:=he h;grind)]
   grind
  .rw[Dj k p1 (show tt C j<=z-x from ⋯) (fun h=>by have:=he h;grind),Dj k p1 (show tt C j<=z from ⋯) (fun h=>by have:=he h;grind)]
   grind
def Bdn (C:Cs)(M z:Rat):Prop:=∃i,i+1<C.length/\tt C (i+1)=z/\slp C M (i+1)<slp C M i
def Bup (C:Cs)(M z:Rat):Prop:=∃i,i+1<C.length/\tt C (i+1)=z/\slp C M i<slp C M (i+1)
section
variable {rc ac lc cc:Cs}{rm am lm cm:Rat}
theorem Jw (kr:Crv rc rm)(ka:Crv ac am){z:Rat}(z0:0<z):(Bdn rc rm z\/Bup ac am z)\/Cup (gap rc rm ac am) z:=by
 obtain⟨e,s1,s2,e0,ez,h1,h2⟩:=DP kr z0
 obtain⟨f,t1,t2,f0,fz,g1,g2⟩:=DP ka z0
 by_cases c1:s2<s1
 .rcases h2 with h|⟨i,hi,eq,q1,q2⟩
  .grind
  .exact .inl (.inl #[i,hi,eq,by rw[q1,q2];exact c1])
 by_cases c2:t1<t2
 .rcases g2 with h|⟨i,hi,eq,q1,q2⟩
  .grind
  .exact .inl (.inr #[i,hi,eq,by rw[q1,q2];exact c2])
 obtain⟨d,d0,d1,d2⟩:=Cu e0 f0
 refine .inr #[d,d0,⋯,fun x x0 xd=>?_]
 have a:=h1 x x0 ⋯
 have b:=g1 x x0 ⋯
 have m1:=qAC (show 0<=s2-s1 from ⋯) x0
 have m2:=qAC (show 0<=t1-t2 from ⋯) x0
 unfold gap
 rw[a.1,a.2,b.1,b.2]
 grind
theorem Eu (kr:Crv rc rm)(ka:Crv ac am):Lin (gap rc rm ac am) ((List.range rc.length).map (tt rc)++(List.range ac.length).map (tt ac)) (fun b c=>∃b1 c1 b2 c2,(∃j,j<rc.length/\b1=slp rc rm j/\c1=vv rc j-slp rc rm j*tt rc j)/\(∃j,j<ac.length/\b2=slp ac am j/\c2=vv ac j-slp ac am j*tt ac j)/\b=b1-b2/\c=c1-c2):=(Hy (m:=rm) (C3 kr).o).sub (Hy (m:=am) (C3 ka).o)
theorem HI (kr:Crv rc rm):(0:Rat)∈(List.range rc.length).map (tt rc)++(List.range ac.length).map (tt ac):=qAu.mpr (.inl (qAL.mpr #[0,qAN.mpr kr.ne,kr.t0]))
theorem Nu (kr:Crv rc rm)(ka:Crv ac am)(kl:Crv lc lm)(kc:Crv cc cm)(H:∀t,0<=t->IsL (gap rc rm ac am) t (val lc lm t))(vC:∀t,0<=t->val cc cm t=val rc rm t-val lc lm t){i:Nat}(hi:i<cc.length) :
 (∃j,j<ac.length/\slp cc cm i=slp ac am j/\vv cc i-slp cc cm i*tt cc i=vv ac j-slp ac am j*tt ac j) \/
 (∃j v,j<rc.length/\Nf (gap rc rm ac am) (fun z=>Bdn rc rm z\/Bup ac am z) v/\slp cc cm i=slp rc rm j/\vv cc i-slp cc cm i*tt cc i=vv rc j-slp rc rm j*tt rc j-v):=by
 have t0:=Fm kc hi
 obtain⟨e,e0,he⟩:=Q0 ((List.range rc.length).map (tt rc)++(List.range ac.length).map (tt ac)) (tt cc i)
 obtain⟨b1,c1,⟨j1,hj1,eb1,ec1⟩,l1⟩:=Hy (m:=rm) (C3 kr).o (tt cc i) (tt cc i+e) t0 ⋯ fun z hz=>he z (qAu.mpr (.inl hz))
 obtain⟨b2,c2,⟨j2,hj2,eb2,ec2⟩,l2⟩:=Hy (m:=am) (C3 ka).o (tt cc i) (tt cc i+e) t0 ⋯ fun z hz=>he z (qAu.mpr (.inr hz))
 have lin:=Eu (rm:=rm) (am:=am) kr ka
 have hD:∀z,tt cc i<=z->z<=tt cc i+e->gap rc rm ac am z=(b1-b2)*z+(c1-c2):=fun z z1 z2=>by unfold gap;rw[l1 z z1 z2,l2 z z1 z2];grind
 have v:=DK (m:=cm) (C3 kc).o hi
 have tell:∀(b c d:Rat),0<d->(∀z,tt cc i<=z->z<=tt cc i+d->val cc cm z=b*z+c)->slp cc cm i=b/\vv cc i-slp cc cm i*tt cc i=c:=fun b c d d0 h=>by
  obtain⟨g,g0,g1,g2⟩:=Lr kc hi d0
  have a1:=h (tt cc i) qAc ⋯
  have a2:=h (tt cc i+g) ⋯ ⋯
  rw[v] at a1
  rw[Dj kc hi ⋯ g2] at a2
  have:(slp cc cm i-b)*g=0:=⋯
  have e:slp cc cm i=b:=by
   rcases qBh.mp this with z|z
   .grind
   .grind
  exact#[e,by rw[e];grind]
 have flat:∀d,0<d->d<=e->(∀z,tt cc i<=z->z<=tt cc i+d->val lc lm z=val lc lm (tt cc i))->∃j v,j<rc.length/\Nf (gap rc rm ac am) (fun z=>Bdn rc rm z\/Bup ac am z) v/\slp cc cm i=slp rc rm j/\vv cc i-slp cc cm i*tt cc i=vv rc j-slp rc rm j*tt rc j-v:=fun d d0 de h=>by
  have gv:=Iu lin (HI kr) (fun z z0=>Jw kr ka z0) H (y:=tt cc i+d) t0 ⋯ (h _ ⋯ qAc).symm
  obtain⟨q1,q2⟩:=tell b1 (c1-val lc lm (tt cc i)) d d0 fun z z1 z2=>by rw[vC z ⋯,l1 z z1 ⋯,h z z1 z2];grind
  exact#[j1,_,hj1,gv,by rw[q1,eb1],by rw[q2,ec1]]
 by_cases cD:gap rc rm ac am (tt cc i)=val lc lm (tt cc i)
 .by_cases b0:b1-b2<=0
  .exact .inr (flat e e0 qAc fun z z1 z2=>by have:=MY kl H t0 z1 cD (fun y y1 y2=>hD y y1 ⋯);rw[if_pos b0] at this;exact this)
  .left
   obtain⟨q1,q2⟩:=tell b2 c2 e e0 fun z z1 z2=>by
    have:=MY kl H t0 z1 cD (fun y y1 y2=>hD y y1 ⋯)
    rw[if_neg b0] at this
    rw[vC z ⋯,this]
    unfold gap
    rw[l2 z z1 z2]
    grind
   exact#[j2,hj2,by rw[q1,eb2],by rw[q2,ec2]]
 .have le:=(H (tt cc i) t0).2.2 (tt cc i) t0 qAc
  obtain⟨d,d0,hd⟩:=Uy lin kl H t0 (show gap rc rm ac am (tt cc i)<val lc lm (tt cc i) from ⋯)
  obtain⟨g,g0,g1,g2⟩:=Cu d0 e0
  exact .inr (flat g g0 g2 fun z z1 z2=>hd z z1 ⋯)
theorem Rg (kr:Crv rc rm)(ka:Crv ac am)(kl:Crv lc lm)(kc:Crv cc cm)(H:∀t,0<=t->IsL (gap rc rm ac am) t (val lc lm t))(vC:∀t,0<=t->val cc cm t=val rc rm t-val lc lm t){z:Rat}(h:Bup cc cm z):(∃i,i<rc.length/\tt rc i=z)\/Bup ac am z:=by
 obtain⟨i,hi,rfl,lt⟩:=h
 have z0:0<tt cc (i+1):=by
  have:=kc.up i hi
  have:=Fm kc (show i<cc.length from ())
  grind
 obtain⟨e,s1,s2,e0,ez,h1,h2⟩:=DP kr z0
 obtain⟨f,t1,t2,f0,fz,g1,g2⟩:=DP kl z0
 obtain⟨n,u1,u2,n0,nz,k1,k2⟩:=DP kc z0
 rcases h2 with hs|⟨j,hj,ej,_,_⟩
 rotate_left
 .exact .inl #[j+1,hj,ej]
 rcases k2 with hu|⟨j',hj',ej',q1,q2⟩
 .exfalso
  obtain⟨d,d0,d1⟩:∃d,0<d/\(d<=n/\d<=tt cc (i+1)-tt cc i)/\(i+1+1<cc.length->tt cc (i+1)+d<=tt cc (i+1+1)):=by
   have:=kc.up i hi
   obtain⟨a,a0,a1,a2⟩:=Cu n0 (show 0<tt cc (i+1)-tt cc i from ⋯)
   obtain⟨b,b0,b1,b2⟩:=Lr kc hi a0
   exact#[b,b0,#[⋯,⋯],b2]
  have a:=k1 d ⋯ d1.1.1
  rw[Dj kc hi (show tt cc (i+1)<=tt cc (i+1)+d from ⋯) d1.2,Dj kc (show i<cc.length from ()) (show tt cc i<=tt cc (i+1)-d from ⋯) (fun _=>⋯),DK (m:=cm) (C3 kc).o hi] at a
  have b:=DH (m:=cm) kc.up hi
  have m:=qBc (show 0<slp cc cm (i+1)-slp cc cm i from ⋯) d0
  have hu':u1*d=u2*d:=by rw[hu]
  grind
 .have ji:j'=i:=by
   rcases Nat.lt_trichotomy j' i with h|h|h
   .have:=AN kc.up (show j'+1<=i from ()) (show i<cc.length from ())
    have:=kc.up i hi
    grind
   .exact h
   .have:=AN kc.up (show i+1<=j' from ()) (show j'<cc.length from ())
    have:=kc.up j' hj'
    grind
  subst ji
  obtain⟨a,a0,a1,a2⟩:=Cu e0 f0
  obtain⟨d,d0,d1,d2⟩:=Cu a0 n0
  have x1:=h1 d ⋯ ⋯
  have x2:=g1 d ⋯ ⋯
  have x3:=k1 d ⋯ ⋯
  have y1:=vC (tt cc (j'+1)+d) ⋯
  have y2:=vC (tt cc (j'+1)-d) ⋯
  have y3:=vC (tt cc (j'+1)) ⋯
  have m:=qBc (show 0<u2-u1 from ⋯) d0
  have hs':s1*d=s2*d:=by rw[hs]
  have td:t2*d<t1*d:=⋯
  have tl:t2<t1:=qBT.mp fun q=>by
   have:=qAC (show 0<=t2-t1 from ⋯) (qAp d0)
   grind
  rcases g2 with h|⟨l,hl,el,w1,w2⟩
  .grind
  .rcases Ik (Eu (rm:=rm) (am:=am) kr ka) (fun z z0=>Jw kr ka z0) kl H hl (by rw[w1,w2];exact tl) with q|q
   .obtain⟨j,hj,ej,_⟩:=q
    exact .inl #[j+1,hj,ej.trans el]
   .exact .inr (el ▸ q)
end
def Vz (g:Int)(k n:Nat)(v:Rat):Prop:=∃Z Y:Int,Y≠0/\v*((g*g*Y:Int):Rat)=(Z:Rat)/\Z.natAbs<2^n/\Y.natAbs<=2^k
def Tz (g:Int)(p n:Nat)(t:Rat):Prop:=∃X Y:Int,Y≠0/\t*((g*Y:Int):Rat)=(X:Rat)/\X.natAbs<2^n/\Y.natAbs<=2^p
def Lz (g:Int)(b k n:Nat)(s c:Rat):Prop:=Gd g b s/\Vz g k n c
section
variable {g:Int}{k n k' n' p q b:Nat}
theorem MD {a k k':Nat}(h:a<=2^k) (l:k<=k'):a<=2^k':=qAG h (qBE ∅ l)
theorem Fs {a c:Int}{k k':Nat}(h:a.natAbs<=2^k) (h':c.natAbs<=2^k'):(a*c).natAbs<=2^(k+k'):=by
 rw[qCe,Nat.pow_add]
 exact Nat.mul_le_mul h h'
theorem Cm {a c:Int}{k k':Nat}(h:a.natAbs<2^k) (h':c.natAbs<=2^k'):(a*c).natAbs<2^(k+k'):=by
 rw[qCe,Nat.pow_add]
 exact Nat.lt_of_le_of_lt (Nat.mul_le_mul_left _ h') (Nat.mul_lt_mul_of_pos_right h (qBn _))
theorem Vz.mono {v:Rat}(h:Vz g k n v) (h1:k<=k') (h2:n<=n'):Vz g k' n' v:=by
 obtain⟨Z,Y,y0,e,hz,hy⟩:=h
 exact#[Z,Y,y0,e,AJ hz h2,MD hy h1]
theorem Tz.mono {v:Rat}(h:Tz g k n v) (h1:k<=k') (h2:n<=n'):Tz g k' n' v:=by
 obtain⟨Z,Y,y0,e,hz,hy⟩:=h
 exact#[Z,Y,y0,e,AJ hz h2,MD hy h1]
theorem Vz.sub {u v:Rat}{m:Nat}(h:Vz g k n u) (h':Vz g k' n' v) (m1:n+k'<=m) (m2:n'+k<=m):Vz g (k+k') (m+1) (u-v):=by
 obtain⟨Z,Y,y0,e,hz,hy⟩:=h
 obtain⟨Z',Y',y0',e',hz',hy'⟩:=h'
 refine#[Z*Y'-Z'*Y,Y*Y',qA1 y0 y0',?_,?_,Fs hy hy']
 .simp only[qAl,qBg] at e e' ⊢
  rw[<-e,<-e']
  grind
 .have a:=AJ (Cm hz hy') m1
  have b:=AJ (Cm hz' hy) m2
  rw[qBb]
  omega
theorem Tv {s c t:Rat}{m:Nat}(l:Lz g b k n s c) (h:Tz g p q t) (m1:b+q+k<=m) (m2:n+p<=m):Vz g (p+k) (m+1) (s*t+c):=by
 obtain⟨⟨B,eb,zb⟩,Z,Y,y0,e,hz,hy⟩:=l
 obtain⟨X,W,w0,ew,hx,hw⟩:=h
 refine#[B*X*Y+Z*W,W*Y,qA1 w0 y0,?_,?_,Fs hw hy]
 .simp only[qAl,qBm] at e ew ⊢
  rw[<-e,<-ew,<-eb]
  grind
 .have a:=AJ (Cm (Ay zb hx) hy) m1
  have b:=AJ (Cm hz hw) m2
  rw[qBb]
  omega
theorem P2 {s c s' c' t:Rat}{m:Nat}(g0:g≠0) (l:Lz g b k n s c) (l':Lz g b k n s' c') (ne:s≠s') (e:s*t+c=s'*t+c') (m1:n+k<=m):Tz g (k+k+(b+1)) (m+1) t:=by
 obtain⟨⟨B,eb,zb⟩,Z,Y,y0,ez,hz,hy⟩:=l
 obtain⟨⟨B',eb',zb'⟩,Z',Y',y0',ez',hz',hy'⟩:=l'
 have g1:=Mj g0
 refine#[Z'*Y-Z*Y',Y*Y'*(B-B'),qA1 (qA1 y0 y0') (fun z=>ne ?_),?_,?_,?_]
 .have:B=B':=()
  have:s*(g:Rat)=s'*(g:Rat):=by rw[eb,eb',this]
  grind
 .simp only[qAl,qBg] at ez ez' ⊢
  rw[<-eb,<-eb',<-ez,<-ez']
  have:(s-s')*t=c'-c:=⋯
  have:t*((g:Rat)*((Y:Rat)*(Y':Rat)*(s*(g:Rat)-s'*(g:Rat))))=((s-s')*t)*((g:Rat)*(g:Rat)*((Y:Rat)*(Y':Rat))):=⋯
  rw[this]
  grind
 .have a:=AJ (Cm hz' hy) m1
  have b:=AJ (Cm hz hy') m1
  rw[qBb]
  omega
 .refine Fs (Fs hy hy') ?_
  rw[qBb]
  omega
theorem Vz.sz {v:Rat}{m:Nat}(h:Vz g k n v) (g0:g≠0) (hg:g.natAbs<2^6) (m1:12+k<=m) (m2:n<=m):Sz m v:=by
 obtain⟨Z,Y,y0,e,hz,hy⟩:=h
 exact Mp (w:=g*g*Y) (qA1 (qA1 g0 g0) y0) e (AJ hz m2) (AJ (Cm (Ay hg hg) hy) ())
theorem Tz.sz {v:Rat}{m:Nat}(h:Tz g p n v) (g0:g≠0) (hg:g.natAbs<2^6) (m1:6+p<=m) (m2:n<=m):Sz m v:=by
 obtain⟨Z,Y,y0,e,hz,hy⟩:=h
 exact Mp (w:=g*Y) (qA1 g0 y0) e (AJ hz m2) (AJ (Cm hg hy) ())
end
def Lns (g:Int)(b k n:Nat)(C:Cs)(M:Rat):Prop:=∀i,i<C.length->Lz g b k n (slp C M i) (vv C i-slp C M i*tt C i)
structure RZ (g:Int)(b k n p q e f:Nat)(C:Cs)(M:Rat):Prop where
 c:Crv C M
 l:Lns g b k n C M
 t:∀z,Bdn C M z->Tz g p q z
 u:∀i,i<C.length->Tz g e f (tt C i)
structure AZ (g:Int)(b k n p q:Nat)(C:Cs)(M:Rat):Prop where
 c:Crv C M
 l:Lns g b k n C M
 t:∀z,Bup C M z->Tz g p q z
theorem Lns.tz {g:Int}{b k n:Nat}{C:Cs}{M:Rat}(g0:g≠0) (kc:Crv C M) (l:Lns g b k n C M){i:Nat}(hi:i<C.length):Tz g (k+k+(b+1)) (n+k+1) (tt C i):=by
 cases i with
 |zero=>exact#[0,1,∅,by rw[kc.t0,qBC];rfl,qBn _,qBQ]
 |succ i =>
  refine P2 g0 (l i ()) (l (i+1) hi) (kc.bend i hi) ?_ (qAd _)
  have:=DH (m:=M) kc.up hi
  grind
section
variable {rc ac lc cc:Cs}{rm am lm cm:Rat}{g:Int}{b k n p q e f b' k' n' p' q' B m P Q m2:Nat}
theorem LP (r:RZ g b k n p q e f rc rm)(a:AZ g b' k' n' p' q' ac am)(h1:b<=B)(h2:b'<=B)(m1:n+k'<=m)(m1':n'+k<=m)(hp:p<=P)(hp':p'<=P)(hq:q<=Q)(hq':q'<=Q)(q2:B+1+Q+(k+k')<=m2)(q3:m+1+P<=m2){v:Rat}
 (h:Nf (gap rc rm ac am) (fun z=>Bdn rc rm z\/Bup ac am z) v):Vz g (P+(k+k')) (m2+1) v:=by
 rcases h with rfl|⟨z,z0,gz,rfl⟩
 .exact#[0,1,∅,by rw[qBC];rfl,qBn _,qBQ]
 .have tz:Tz g P Q z:=by
   rcases gz with rfl|gz|gz
   .exact#[0,1,∅,by rw[qBC];rfl,qBn _,qBQ]
   .exact(r.t z gz).mono hp hq
   .exact(a.t z gz).mono hp' hq'
  obtain⟨e,e0,he⟩:=Q0 ((List.range rc.length).map (tt rc)++(List.range ac.length).map (tt ac)) z
  obtain⟨b1,c1,⟨b2,c2,b3,c3,⟨j1,hj1,rfl,rfl⟩,⟨j2,hj2,rfl,rfl⟩,rfl,rfl⟩,l1⟩:=Eu (rm:=rm) (am:=am) r.c a.c z (z+e) z0 ⋯ he
  rw[l1 z qAc ⋯]
  exact Tv #[((r.l j1 hj1).1.mono h1).sub ((a.l j2 hj2).1.mono h2),(r.l j1 hj1).2.sub (a.l j2 hj2).2 m1 m1'] tz q2 q3
theorem PY (g0:g≠0)(r:RZ g b k n p q e f rc rm)(a:AZ g b' k' n' p' q' ac am)(kl:Crv lc lm)(H:∀t,0<=t->IsL (gap rc rm ac am) t (val lc lm t))(h1:b<=B)(h2:b'<=B)(m1:n+k'<=m)(m1':n'+k<=m)(hp:p<=P)(hp':p'<=P)(hq:q<=Q)(hq':q'<=Q)(q2:B+1+Q+(k+k')<=m2)(q3:m+1+P<=m2){E F:Nat}(e1:P+(k+k')+(P+(k+k'))+(B+1+1)<=E) (f1:m2+1+(P+(k+k'))+1<=F) :
 RZ g (B+1) (P+(k+k')) (m2+1) P Q E F lc lm:=by
 have hg:=fun z (z0:0<z)=>Jw r.c a.c z0
 have ln:Lns g (B+1) (P+(k+k')) (m2+1) lc lm:=fun i hi=>by
  rcases Ms (Eu (rm:=rm) (am:=am) r.c a.c) (HI r.c) hg kl H hi with⟨b2,c2,b3,c3,⟨j1,hj1,rfl,rfl⟩,⟨j2,hj2,rfl,rfl⟩,e1,e2⟩|⟨e,gv⟩
  .rw[e2,e1]
   exact#[((r.l j1 hj1).1.mono h1).sub ((a.l j2 hj2).1.mono h2),((r.l j1 hj1).2.sub (a.l j2 hj2).2 m1 m1').mono () ()]
  .rw[e,show vv lc i-0*tt lc i=vv lc i from ⋯]
   exact#[#[0,by rw[qBC];rfl,qBn _],LP r a h1 h2 m1 m1' hp hp' hq hq' q2 q3 gv]
 refine#[kl,ln,fun z hz=>?_,fun i hi=>(ln.tz g0 kl hi).mono e1 f1]
 .obtain⟨i,hi,rfl,lt⟩:=hz
  rcases Ik (Eu (rm:=rm) (am:=am) r.c a.c) hg kl H hi lt with h|h
  .exact(r.t _ h).mono hp hq
  .exact(a.t _ h).mono hp' hq'
theorem Qi (r:RZ g b k n p q e f rc rm)(a:AZ g b' k' n' p' q' ac am)(kl:Crv lc lm)(kc:Crv cc cm)(H:∀t,0<=t->IsL (gap rc rm ac am) t (val lc lm t))(vC:∀t,0<=t->val cc cm t=val rc rm t-val lc lm t)(h1:b<=B)(h2:b'<=B)(m1:n+k'<=m)(m1':n'+k<=m)(hp:p<=P)(hp':p'<=P)(hq:q<=Q)(hq':q'<=Q)(q2:B+1+Q+(k+k')<=m2)(q3:m+1+P<=m2)
 {K N E F:Nat}(k1:k'<=K) (k2:k+(P+(k+k'))<=K) (n1:n'<=N) (n2:n+(P+(k+k'))+1<=N) (n3:m2+1+k+1<=N) (e1:e<=E) (e2:P<=E) (f1:f<=F) (f2:Q<=F) :
 AZ g B K N E F cc cm:=by
 refine#[kc,fun i hi=>?_,fun z hz=>?_]
 .rcases Nu r.c a.c kl kc H vC hi with⟨j,hj,x1,x2⟩|⟨j,v,hj,gv,x1,x2⟩
  .rw[x2,x1]
   exact#[(a.l j hj).1.mono h2,(a.l j hj).2.mono k1 n1]
  .rw[x2,x1]
   have:=(r.l j hj).2.sub (LP r a h1 h2 m1 m1' hp hp' hq hq' q2 q3 gv) (m:=N-1) () ()
   exact#[(r.l j hj).1.mono h1,this.mono k2 ()]
 .rcases Rg r.c a.c kl kc H vC hz with⟨i,hi,rfl⟩|h
  .exact(r.u i hi).mono e1 f1
  .exact(a.t _ h).mono (qAG hp' e2) (qAG hq' f2)
end
theorem Lns.ls {g:Int}{b k n a B c:Nat}{C:Cs}{M:Rat}(g0:g≠0) (hg:g.natAbs<2^6) (kc:Crv C M) (l:Lns g b k n C M) (h1:6+(k+k+(b+1))<=a) (h2:n+k+1<=a) (h3:b<=B) (h4:6<=B) (h5:12+k<=c) (h6:n<=c):LS a B c C M :=
 Ln.ls (fun i hi=>#[((l i hi).1.mono h3).sz g0 (AJ hg h4),(l i hi).2.sz g0 hg h5 h6]) (C3 kc).o fun i hi=>(l.tz g0 kc hi).sz g0 hg h1 h2
abbrev Cq:=Cs×Rat
structure Zn where
 b:Nat
 k:Nat
 n:Nat
 p:Nat
 q:Nat
 e:Nat
 f:Nat
 N:Nat
namespace Zn
def B (r a:Zn):Nat:=max r.b a.b
def m (r a:Zn):Nat:=max (r.n+a.k) (a.n+r.k)
def P (r a:Zn):Nat:=max r.p a.p
def Q (r a:Zn):Nat:=max r.q a.q
def K (r a:Zn):Nat:=P r a+(r.k+a.k)
def m2 (r a:Zn):Nat:=max (B r a+1+Q r a+(r.k+a.k)) (m r a+1+P r a)
def rest (r a:Zn):Zn:=#[B r a+1,K r a,m2 r a+1,P r a,Q r a,K r a+K r a+(B r a+1+1),m2 r a+1+K r a+1,r.N+a.N+1]
def gone (r a:Zn):Zn:=#[B r a,max a.k (r.k+K r a),max a.n (max (r.n+K r a+1) (m2 r a+1+r.k+1)),max r.e (P r a),max r.f (Q r a),0,0,r.N+(r.N+a.N+1)]
def le (x y:Zn):Prop:=x.b<=y.b/\x.k<=y.k/\x.n<=y.n/\x.p<=y.p/\x.q<=y.q/\x.e<=y.e/\x.f<=y.f/\x.N<=y.N
instance (x y:Zn):Decidable (le x y):=inferInstanceAs (Decidable (_/\_))
end Zn
def RW (g:Int)(z:Zn)(x:Cq):Prop:=RZ g z.b z.k z.n z.p z.q z.e z.f x.1 x.2/\x.1.length<=z.N
def AW (g:Int)(z:Zn)(x:Cq):Prop:=AZ g z.b z.k z.n z.p z.q x.1 x.2/\x.1.length<=z.N
theorem Lns.mono {g:Int}{b k n b' k' n':Nat}{C:Cs}{M:Rat}(h:Lns g b k n C M) (h1:b<=b') (h2:k<=k') (h3:n<=n'):Lns g b' k' n' C M:=fun i hi=>#[(h i hi).1.mono h1,(h i hi).2.mono h2 h3]
section
variable {g:Int}{z y:Zn}{x r a l c:Cq}
theorem RW.mono (h:RW g z x)(l:z.le y):RW g y x:=by
 obtain⟨h,n⟩:=h
 obtain⟨l1,l2,l3,l4,l5,l6,l7,l8⟩:=l
 exact#[#[h.c,h.l.mono l1 l2 l3,fun z hz=>(h.t z hz).mono l4 l5,fun i hi=>(h.u i hi).mono l6 l7],qAG n l8]
theorem AW.mono (h:AW g z x)(l:z.le y):AW g y x:=by
 obtain⟨h,n⟩:=h
 obtain⟨l1,l2,l3,l4,l5,l6,l7,l8⟩:=l
 exact#[#[h.c,h.l.mono l1 l2 l3,fun z hz=>(h.t z hz).mono l4 l5],qAG n l8]
structure Stp (r a l c:Cq):Prop where
 kl:Crv l.1 l.2
 kc:Crv c.1 c.2
 h:∀t,0<=t->IsL (gap r.1 r.2 a.1 a.2) t (val l.1 l.2 t)
 v:∀t,0<=t->val c.1 c.2 t=val r.1 r.2 t-val l.1 l.2 t
theorem Stp.rw_ (s:Stp r a l c)(g0:g≠0)(hr:RW g z r)(ha:AW g y a):RW g (z.rest y) l:=by
 refine#[PY g0 hr.1 ha.1 s.kl s.h (qAD _ _) (qAv _ _) (qAD _ _) (qAv _ _) (qAD _ _) (qAv _ _) (qAD _ _) (qAv _ _) (qAD _ _) (qAv _ _) (qAd _) (qAd _),?_]
 have:=L7 (Eu (rm:=r.2) (am:=a.2) hr.1.c ha.1.c) (HI hr.1.c) s.kl s.h
 rw[qAn,qAa,qAa,qAt,qAt] at this
 have:=hr.2
 have:=ha.2
 show _<=z.N+y.N+1
 omega
theorem Stp.aw_ (s:Stp r a l c)(hr:RW g z r)(ha:AW g y a)(hl:c.1.length<=r.1.length+l.1.length):AW g (z.gone y) c:=by
 refine#[Qi hr.1 ha.1 s.kl s.kc s.h s.v (qAD _ _) (qAv _ _) (qAD _ _) (qAv _ _) (qAD _ _) (qAv _ _) (qAD _ _) (qAv _ _) (qAD _ _) (qAv _ _) (qAD _ _) (qAv _ _) (qAD _ _) (qAG (qAD _ _) (qAv _ _)) (qAG (qAv _ _) (qAv _ _)) (qAD _ _) (qAv _ _) (qAD _ _) (qAv _ _),?_]
 have:=L7 (Eu (rm:=r.2) (am:=a.2) hr.1.c ha.1.c) (HI hr.1.c) s.kl s.h
 rw[qAn,qAa,qAa,qAt,qAt] at this
 have:=hr.2
 have:=ha.2
 show _<=z.N+(z.N+y.N+1)
 omega
end
structure Tab where
 g:Int
 R:Nat->Nat->Zn
 A:Nat->Nat->Zn
structure Tab.Ok (t:Tab)(S H:Nat):Prop where
 g0:t.g≠0
 g6:t.g.natAbs<2^6
 r:∀s,s<S->∀h,h<H->(t.R s h).le (t.R (s+1) h)/\((t.R s h).rest (t.A s h)).le (t.R (s+1) h)
 a:∀s,s<S->∀h,h<H->((t.R s h).gone (t.A s h)).le (t.A s (h+1))/\(t.A s 0).le (t.A s h)
structure Run (t:Tab)(hs cs:List Cq)(ws:List (Nat×Nat))(s:Nat)(R A:Nat->Nat->Cq):Prop where
 r0:∀h,h<hs.length->hs[h]? = some (R 0 h)
 a0:∀k w,k<s->ws[k]? = some w->cs[k]? = some (A k w.1)
 stp:∀k w h,k<s->ws[k]? = some w->w.1<=h->h<=w.2->Stp (R k h) (A k h) (R (k+1) h) (A k (h+1))
 stay:∀k w h,k<s->ws[k]? = some w->¬(w.1<=h/\h<=w.2)->R (k+1) h=R k h
 zr:∀k h,k<=s->h<hs.length->RW t.g (t.R k h) (R k h)
 za:∀k w h,k<s->ws[k]? = some w->w.1<=h->h<=w.2+1->AW t.g (t.A k h) (A k h)
theorem Run.zero {t:Tab}{hs cs:List Cq}{ws:List (Nat×Nat)}(h:∀k x,hs[k]? = some x->RW t.g (t.R 0 k) x):Run t hs cs ws 0 (fun _ h=>hs.getD h ([],0)) (fun _ _=>([],0)):=by
 have at_:∀k,k<hs.length->hs[k]? = some (hs.getD k ([],0)):=fun k hk=>by rw[qAg,qAb hk];rfl
 exact#[at_,fun k w hk=>absurd hk (qAZ k),fun k w h hk=>absurd hk (qAZ k),fun k w h hk=>absurd hk (qAZ k),fun k j hk hj=>by
  have:k=0:=()
  subst this
  exact h j _ (at_ j hj),fun k w h hk=>absurd hk (qAZ k)]
theorem Run.next {t:Tab}{hs cs:List Cq}{ws:List (Nat×Nat)}{s:Nat}{R A:Nat->Nat->Cq}{w:Nat×Nat}{c:Cq}{R' A':Nat->Cq}(h:Run t hs cs ws s R A) (ok:t.Ok (s+1) hs.length) (hw:ws[s]? = some w) (hc:cs[s]? = some c) (w1:w.1<=w.2) (w2:w.2<hs.length) (e0:A' w.1=c) (za:∀h,w.1<=h->h<=w.2+1->AW t.g (t.A s h) (A' h))
 (st:∀h,w.1<=h->h<=w.2->Stp (R s h) (A' h) (R' h) (A' (h+1))) :
 Run t hs cs ws (s+1) (fun k h=>if k=s+1 then (if w.1<=h/\h<=w.2 then R' h else R s h) else R k h) (fun k h=>if k=s then A' h else A k h):=by
 have ne:∀{k},k<s+1->¬k=s+1:=fun h=>()
 refine#[fun j hj=>h.r0 j hj,fun k v hk hv=>?_,fun k v j hk hv h1 h2=>?_,fun k v j hk hv n=>?_,fun k j hk hj=>?_,fun k v j hk hv h1 h2=>?_]
 .by_cases e:k=s
  .subst e
   rw[hw] at hv
   cases hv
   rw[if_pos rfl,e0]
   exact hc
  .rw[if_neg e]
   exact h.a0 k v () hv
 .by_cases e:k=s
  .subst e
   rw[hw] at hv
   cases hv
   simp only[if_pos,if_neg (show ¬k=k+1 from ())]
   rw[if_pos #[h1,h2]]
   exact st j h1 h2
  .rw[if_neg e,if_neg e,if_neg (ne hk),if_neg (show ¬k+1=s+1 from ())]
   exact h.stp k v j () hv h1 h2
 .by_cases e:k=s
  .subst e
   rw[hw] at hv
   cases hv
   rw[if_pos rfl,if_neg (show ¬k=k+1 from ()),if_neg n]
  .rw[if_neg (ne hk),if_neg (show ¬k+1=s+1 from ())]
   exact h.stay k v j () hv n
 .by_cases e:k=s+1
  .subst e
   rw[if_pos rfl]
   by_cases i:w.1<=j/\j<=w.2
   .rw[if_pos i]
    exact((st j i.1 i.2).rw_ ok.g0 (h.zr s j (qAd _) hj) (za j i.1 ())).mono (ok.r s () j hj).2
   .rw[if_neg i]
    exact(h.zr s j (qAd _) hj).mono (ok.r s () j hj).1
  .rw[if_neg e]
   exact h.zr k j () hj
 .by_cases e:k=s
  .subst e
   rw[hw] at hv
   cases hv
   rw[if_pos rfl]
   exact za j h1 h2
  .rw[if_neg e]
   exact h.za k v j () hv h1 h2
def lsA (z:Zn):Nat:=max (6+(z.k+z.k+(z.b+1))) (z.n+z.k+1)
def lsB (z:Zn):Nat:=max z.b 6
def lsC (z:Zn):Nat:=max (12+z.k) z.n
def Lim (t:Tab)(S H:Nat):Prop:=∀s,s<S->∀h,h<H->lsA (t.R s h)<=600/\lsA (t.A s h)<=600/\lsB (t.R s h)<=100/\lsB (t.A s h)<=100/\lsB (t.R s h)+lsB (t.A s h)+lsC (t.R s h)+lsC (t.A s h)<=700/\(t.R s h).N<=700/\(t.A s h).N<=700
theorem RW.ls {g:Int}{z:Zn}{x:Cq}(h:RW g z x) (g0:g≠0) (g6:g.natAbs<2^6):LS (lsA z) (lsB z) (lsC z) x.1 x.2:=h.1.l.ls g0 g6 h.1.c (qAD _ _) (qAv _ _) (qAD _ _) (qAv _ _) (qAD _ _) (qAv _ _)
theorem AW.ls {g:Int}{z:Zn}{x:Cq}(h:AW g z x) (g0:g≠0) (g6:g.natAbs<2^6):LS (lsA z) (lsB z) (lsC z) x.1 x.2:=h.1.l.ls g0 g6 h.1.c (qAD _ _) (qAv _ _) (qAD _ _) (qAv _ _) (qAD _ _) (qAv _ _)
theorem Wq.minus2 {k n:Nat}{a b c d:Int}{p q:Rat}(h:Wq k a b p) (g:Wq n c d q):Wq (k+n+1) (a*d-c*b) (b*d) (p-q):=by
 refine#[qCh h.pos g.pos,?_,IK (Ay h.la g.lb) (AJ (Ay g.la h.lb) ()),AJ (Ay h.lb g.lb) ()]
 rw[qBg,qAl,qAl,qAl,h.eq,g.eq]
 grind
def itp (ts:List Rat)(f:Rat->Rat):Cs:=ts.map fun t=>(t,f t)
theorem Cn (ts:List Rat)(f:Rat->Rat):(itp ts f).length=ts.length:=qAa _
theorem B7 {ts:List Rat}{f:Rat->Rat}{i:Nat}(h:i<ts.length):tt (itp ts f) i=T ts i/\vv (itp ts f) i=f (T ts i):=by
 have h':i<(itp ts f).length:=by rw[Cn];exact h
 have a:=RK h'
 have e:(itp ts f)[i]=(ts[i],f ts[i]):=List.getElem_map _
 rw[e] at a
 rw[B8 h]
 exact a
theorem Sh {os C L:Cs}{om M K:Rat}{ts:List Rat}(o:Ord os) (oC:Ord C) (t1:Tm1 os ts) (t2:Tm1 C ts) (e1:sat os om (T ts (ts.length-1))=om) (e2:sat C M (T ts (ts.length-1))=M) (rL:Ih L K) (v:∀t,0<=t->val os om t-val C M t=val L K t):Ord (itp ts (val L K))/\∀x,0<=x->val (itp ts (val L K)) (om-M) x=val L K x:=by
 have ne:=t1.ne
 have od:Ord (itp ts (val L K)):=by
  refine#[by rw[Cn];exact ne,by rw[(B7 ne).1];exact t1.t0,by rw[(B7 ne).2];exact Sx rL (t1.nn ne),fun k hk=>?_,fun k hk=>?_]
  .rw[Cn] at hk
   rw[(B7 hk).1,(B7 (show k<ts.length from ())).1]
   exact t1.up k hk
  .rw[Cn] at hk
   rw[(B7 hk).2,(B7 (show k<ts.length from ())).2]
   exact EH rL (t1.nn (show k<ts.length from ())) (qAp (t1.up k hk))
 refine#[od,fun x x0=>?_]
 have on:=FD od x0
 generalize plc (itp ts (val L K)) x (itp ts (val L K)).length=j at on
 obtain⟨jl,lo,hi⟩:=on
 have jl':=jl
 rw[Cn] at jl' hi
 rw[(B7 jl').1] at lo
 have hi2:j+1<ts.length->x<=T ts (j+1):=fun h=>by have:=hi h;rw[(B7 h).1] at this;exact this
 have tn:=t1.nn jl'
 have line:∀y,T ts j<=y->(j+1<ts.length->y<=T ts (j+1))->val L K y=val L K (T ts j)+(sat os om (T ts j)-sat C M (T ts j))*(y-T ts j):=fun y h1 h2=>by
  have a:=t1.line (m:=om) o jl' h1 h2
  have b:=t2.line (m:=M) oC jl' h1 h2
  rw[<-v y ⋯,<-v _ tn,a,b]
  grind
 rw[Bu od.up #[jl,by rw[(B7 jl').1];exact lo,by rw[Cn];exact hi],(B7 jl').1,(B7 jl').2,line x lo hi2]
 congr 2
 by_cases c:j+1<ts.length
 .have u:=t1.up j c
  rw[CK (by rw[Cn];exact c),(B7 c).1,(B7 c).2,(B7 jl').1,(B7 jl').2,line (T ts (j+1)) (qAp u) (fun _=>qAc)]
  have:T ts (j+1)-T ts j≠0:=⋯
  grind
 .rw[AE (by rw[Cn];exact c)]
  have:j=ts.length-1:=()
  rw[this,e1,e2]
theorem PR {g:Int}{b k n:Nat}{s c s' c' t:Rat}(g0:g≠0) (l:Lz g b k n s c) (l':Lz g b k n s' c') (ne:s≠s') (e:s*t+c=s'*t+c'):Vz g (k+k+(b+1)) (b+n+k+3) (s'*t+c'):=by
 obtain⟨⟨B,eb,zb⟩,Z,Y,y0,ez,hz,hy⟩:=l
 obtain⟨⟨B',eb',zb'⟩,Z',Y',y0',ez',hz',hy'⟩:=l'
 have g1:=Mj g0
 have bb:(B-B').natAbs<2^(b+1):=by rw[qBb];omega
 have xx:(Z'*Y-Z*Y').natAbs<2^(n+k+1):=by
  have a:=Cm hz' hy
  have b:=Cm hz hy'
  rw[qBb]
  omega
 refine#[B'*(Z'*Y-Z*Y')+Z'*Y*(B-B'),Y*Y'*(B-B'),qA1 (qA1 y0 y0') (fun z=>ne ?_),?_,?_,Fs (Fs hy hy') (qBq bb)]
 .have:B=B':=()
  have:s*(g:Rat)=s'*(g:Rat):=by rw[eb,eb',this]
  grind
 .simp only[qAl,qBg,qBm] at ez ez' ⊢
  rw[<-eb,<-eb',<-ez,<-ez']
  have h:(s-s')*t=c'-c:=⋯
  have h2:(s'*t+c')*((g:Rat)*(g:Rat)*((Y:Rat)*(Y':Rat)*(s*(g:Rat)-s'*(g:Rat))))=(s'*((s-s')*t)+c'*(s-s'))*((g:Rat)*(g:Rat)*(g:Rat)*((Y:Rat)*(Y':Rat))):=⋯
  rw[h2,h]
  grind
 .have x1:=Ay zb' xx
  have x2:=Ay (Cm hz' hy) bb
  have e1:2^(b+(n+k+1))<=2^(b+n+k+2):=qBE ∅ ()
  have e2:2^(n+k+(b+1))<=2^(b+n+k+2):=qBE ∅ ()
  rw[qBb]
  omega
def szV (z:Zn):Nat:=max (lsA z) (max (13+(z.k+z.k+(z.b+1))) (z.b+z.n+z.k+3))
theorem Lns.szc {g:Int}{z:Zn}{C:Cs}{M:Rat}(g0:g≠0) (g6:g.natAbs<2^6) (kc:Crv C M) (l:Lns g z.b z.k z.n C M):SzC (szV z) C/\Sz (szV z) M:=by
 have h1:lsA z<=szV z:=qAD _ _
 have h2:13+(z.k+z.k+(z.b+1))<=szV z:=qAG (qAD _ _) (qAv _ _)
 have h3:z.b+z.n+z.k+3<=szV z:=qAG (qAv _ _) (qAv _ _)
 have a1:6+(z.k+z.k+(z.b+1))<=lsA z:=qAD _ _
 have a2:z.n+z.k+1<=lsA z:=qAv _ _
 refine#[fun i hi=>#[(l.tz g0 kc hi).sz g0 g6 (qAG a1 h1) (qAG a2 h1),?_],?_]
 .cases i with
  |zero =>
   have:=(l 0 hi).2
   rw[kc.t0,show vv C 0-slp C M 0*0=vv C 0 from ⋯] at this
   exact this.sz g0 g6 () ()
  |succ i =>
   have e:=DH (m:=M) kc.up hi
   have x:=PR (t:=tt C (i+1)) g0 (l i ()) (l (i+1) hi) (kc.bend i hi) ⋯
   rw[show slp C M (i+1)*tt C (i+1)+(vv C (i+1)-slp C M (i+1)*tt C (i+1))=vv C (i+1) from ⋯] at x
   exact x.sz g0 g6 () ()
 .have n:=kc.ne
  have:=(l (C.length-1) ()).1
  rw[AE ()] at this
  exact(this.mono (show z.b<=szV z from ())).sz g0 (AJ g6 ())
structure Lw (t:Tab)(U NN:Nat->Nat->Nat)(S H:Nat):Prop where
 u0:∀h,h<H->lsA (t.R 0 h)<=U 0 h/\(t.R 0 h).N<=NN 0 h
 u:∀s,s<S->∀h,h<H->U s h<=U (s+1) h/\lsA (t.A s (h+1))<=U (s+1) h/\NN s h+(t.A s (h+1)).N<=NN (s+1) h
 l:∀s,s<S->∀h,h<H->6*(lsB (t.R s h)+U s h+lsC (t.R s h)+1)+6*szV (t.A s (h+1))+2*U (s+1) h+9<=12999/\U (s+1) h<=2400/\szV (t.A s h)<=2400/\szV (t.A s (h+1))<=2400/\NN (s+1) h<=6000/\(t.A s h).N<=6000/\(t.A s (h+1)).N<=6000
structure Of (u n:Nat)(x:Cq)(os:Cs)(om:Rat):Prop where
 o:Ord os
 v:∀t,0<=t->val os om t=val x.1 x.2 t
 m:om=x.2
 t:∀i,i<os.length->Sz u (tt os i)
 n:os.length<=n
theorem Of.szc {g:Int}{z:Zn}{u n:Nat}{x:Cq}{os:Cs}{om:Rat}(h:Of u n x os om) (r:RW g z x) (g0:g≠0) (g6:g.natAbs<2^6):SzC (lsB z+u+lsC z+1) os/\Sz (lsB z+u+lsC z+1) om:=by
 have ls:=r.ls g0 g6
 refine#[fun i hi=>#[(h.t i hi).mono (),?_],?_]
 .have t0:=KN h.o hi
  rw[<-DK (m:=om) h.o hi,h.v _ t0]
  exact(ls.va t0 (h.t i hi)).mono ()
 .rw[h.m]
  exact(ls.m (C3 r.1.c).o).mono ()
theorem Stp.uniq {r a l c l' c':Cq}(h:Stp r a l c) (h':Stp r a l' c'):l=l'/\c=c':=by
 have e1:=JS h.kl h'.kl fun t t0=>(h.h t t0).uniq (h'.h t t0)
 have el:l=l':=Prod.ext e1.1 e1.2
 subst el
 have e2:=JS h.kc h'.kc fun t t0=>by rw[h.v t t0,h'.v t t0]
 exact#[rfl,Prod.ext e2.1 e2.2]
theorem Run.uniq {t t':Tab}{hs cs:List Cq}{ws:List (Nat×Nat)}{s:Nat}{R A R' A':Nat->Nat->Cq}(h:Run t hs cs ws s R A) (h':Run t' hs cs ws s R' A') (lw:s<=ws.length) (hw:∀w∈ws,w.1<=w.2/\w.2<hs.length):∀k,k<=s->(∀j,j<hs.length->R k j=R' k j)/\∀i w,i<k->ws[i]? = some w->∀j,w.1<=j->j<=w.2+1->A i j=A' i j
 |0,_=>#[fun j hj=>by
  have a:=h.r0 j hj
  rw[h'.r0 j hj] at a
  exact(qAj a).symm,fun i w hi=>absurd hi (qAZ i)]
 |k+1,hk=>by
  obtain⟨ih1,ih2⟩:=Run.uniq h h' lw hw k ()
  have hv:ws[k]? = some (ws[k]' ()):=qAb ()
  generalize ws[k]' ()=w at hv
  obtain⟨w1,w2⟩:=hw w (qAo hv)
  have ia:∀i,w.1+i<=w.2+1->A k (w.1+i)=A' k (w.1+i):=fun i=>by
   induction i with
   |zero =>
    intro _
    have a:=h.a0 k w () hv
    rw[h'.a0 k w () hv] at a
    exact(qAj a).symm
   |succ i ihi =>
    intro hi
    have s1:=h.stp k w (w.1+i) () hv () ()
    have s2:=h'.stp k w (w.1+i) () hv () ()
    rw[ih1 _ (),ihi ()] at s1
    exact(s1.uniq s2).2
  refine#[fun j hj=>?_,fun i v hi hv' j j1 j2=>?_]
  .by_cases c:w.1<=j/\j<=w.2
   .have s1:=h.stp k w j () hv c.1 c.2
    have s2:=h'.stp k w j () hv c.1 c.2
    have e:=ia (j-w.1) ()
    rw[show w.1+(j-w.1)=j from ()] at e
    rw[ih1 _ hj,e] at s1
    exact(s1.uniq s2).1
   .rw[h.stay k w j () hv c,h'.stay k w j () hv c]
    exact ih1 j hj
  .by_cases c:i=k
   .subst c
    rw[hv] at hv'
    cases hv'
    have e:=ia (j-w.1) ()
    rw[show w.1+(j-w.1)=j from ()] at e
    exact e
   .exact ih2 i v () hv' j j1 j2
end CH
namespace CH
def mkT (g:Int)(R A:List (List Zn)):Tab:=#[g,fun s h=>(R.getD s []).getD h #[0,0,0,0,0,0,0,0],fun s h=>(A.getD s []).getD h #[0,0,0,0,0,0,0,0]]
def mkU (U:List (List Nat))(s h:Nat):Nat:=(U.getD s []).getD h 0
def tG:Tab:=mkT 60 [[#[47,0,82,0,32,0,32,3],#[47,0,82,0,32,0,32,3],#[47,0,82,0,32,0,32,3]],[#[48,0,84,0,32,49,85,7],#[48,0,87,0,32,49,88,14],#[48,0,90,0,32,49,91,21]],[#[49,0,86,0,32,50,87,11],#[49,49,138,49,85,148,188,33],#[49,98,190,49,88,246,289,69]],[#[50,0,88,0,32,51,89,15],#[50,99,190,50,87,249,290,60],#[50,394,488,148,188,839,883,163]]] [[#[47,0,82,0,32,0,0,3],#[47,0,85,0,32,0,0,10],#[47,0,88,0,32,0,0,17],#[47,0,91,0,32,0,0,24]],[#[47,0,82,0,32,0,0,3],#[48,0,87,49,85,0,0,18],#[48,49,139,49,88,0,0,47],#[48,98,191,49,91,0,0,90]],[#[47,0,82,0,32,0,0,3],#[49,0,89,50,87,0,0,26],#[49,148,240,148,188,0,0,93],#[49,492,587,246,289,0,0,232]]]
def uG:Nat->Nat->Nat:=mkU [[83,83,83],[86,89,92],[88,189,290],[90,389,1080]]
def nG:Nat->Nat->Nat:=mkU [[3,3,3],[13,20,27],[31,67,117],[57,160,349]]
theorem T2:tG.Ok 3 3:=#[∅,∅,by decide +kernel,by decide +kernel]
theorem Sy:Lim tG 3 3:=by unfold Lim;decide +kernel
theorem Tu:Lw tG uG nG 3 3:=#[by decide +kernel,by decide +kernel,by decide +kernel]
def tP:Tab:=mkT 1 [[#[7,0,21,0,1,0,1,1],#[7,0,21,0,1,0,1,1],#[7,0,21,0,1,0,1,1],#[7,0,21,0,1,0,1,1],#[7,0,21,0,1,0,1,1],#[7,0,21,0,1,0,1,1],#[7,0,21,0,1,0,1,1],#[7,0,21,0,1,0,1,1],#[7,0,21,0,1,0,1,1],#[7,0,21,0,1,0,1,1],#[7,0,21,0,1,0,1,1],#[7,0,21,0,1,0,1,1]],[#[8,0,23,0,1,9,24,3],#[8,0,26,0,1,9,27,6],#[8,0,29,0,1,9,30,9],#[8,0,32,0,1,9,33,12],#[8,0,35,0,1,9,36,15],#[8,0,38,0,1,9,39,18],#[8,0,41,0,1,9,42,21],#[8,0,44,0,1,9,45,24],#[8,0,47,0,1,9,48,27],#[8,0,50,0,1,9,51,30],#[8,0,53,0,1,9,54,33],#[8,0,56,0,1,9,57,36]]] [[#[7,0,21,0,1,0,0,1],#[7,0,24,0,1,0,0,4],#[7,0,27,0,1,0,0,7],#[7,0,30,0,1,0,0,10],#[7,0,33,0,1,0,0,13],#[7,0,36,0,1,0,0,16],#[7,0,39,0,1,0,0,19],#[7,0,42,0,1,0,0,22],#[7,0,45,0,1,0,0,25],#[7,0,48,0,1,0,0,28],#[7,0,51,0,1,0,0,31],#[7,0,54,0,1,0,0,34],#[7,0,57,0,1,0,0,37]]]
def uP:Nat->Nat->Nat:=mkU [[22,22,22,22,22,22,22,22,22,22,22,22],[25,28,31,34,37,40,43,46,49,52,55,58]]
def nP:Nat->Nat->Nat:=mkU [[1,1,1,1,1,1,1,1,1,1,1,1],[5,8,11,14,17,20,23,26,29,32,35,38]]
theorem T6:tP.Ok 1 12:=#[∅,∅,by decide +kernel,by decide +kernel]
theorem Sb:Lim tP 1 12:=by unfold Lim;decide +kernel
theorem Uk:Lw tP uP nP 1 12:=#[by decide +kernel,by decide +kernel,by decide +kernel]
def tQ:Tab:=mkT 1 [[#[7,0,21,0,1,0,1,1]],[#[8,0,23,0,1,9,24,3]],[#[9,0,25,0,1,10,26,5]],[#[10,0,27,0,1,11,28,7]],[#[11,0,29,0,1,12,30,9]],[#[12,0,31,0,1,13,32,11]],[#[13,0,33,0,1,14,34,13]],[#[14,0,35,0,1,15,36,15]],[#[15,0,37,0,1,16,38,17]],[#[16,0,39,0,1,17,40,19]],[#[17,0,41,0,1,18,42,21]],[#[18,0,43,0,1,19,44,23]],[#[19,0,45,0,1,20,46,25]]] [[#[7,0,21,0,1,0,0,1],#[7,0,24,0,1,0,0,4]],[#[7,0,21,0,1,0,0,1],#[8,0,26,9,24,0,0,8]],[#[7,0,21,0,1,0,0,1],#[9,0,28,10,26,0,0,12]],[#[7,0,21,0,1,0,0,1],#[10,0,30,11,28,0,0,16]],[#[7,0,21,0,1,0,0,1],#[11,0,32,12,30,0,0,20]],[#[7,0,21,0,1,0,0,1],#[12,0,34,13,32,0,0,24]],[#[7,0,21,0,1,0,0,1],#[13,0,36,14,34,0,0,28]],[#[7,0,21,0,1,0,0,1],#[14,0,38,15,36,0,0,32]],[#[7,0,21,0,1,0,0,1],#[15,0,40,16,38,0,0,36]],[#[7,0,21,0,1,0,0,1],#[16,0,42,17,40,0,0,40]],[#[7,0,21,0,1,0,0,1],#[17,0,44,18,42,0,0,44]],[#[7,0,21,0,1,0,0,1],#[18,0,46,19,44,0,0,48]]]
def uQ:Nat->Nat->Nat:=mkU [[22],[25],[27],[29],[31],[33],[35],[37],[39],[41],[43],[45],[47]]
def nQ:Nat->Nat->Nat:=mkU [[1],[5],[13],[25],[41],[61],[85],[113],[145],[181],[221],[265],[313]]
theorem Uw:tQ.Ok 12 1:=#[∅,∅,by decide +kernel,by decide +kernel]
theorem Si:Lim tQ 12 1:=by unfold Lim;decide +kernel
theorem Tx:Lw tQ uQ nQ 12 1:=#[by decide +kernel,by decide +kernel,by decide +kernel]
def tO:Tab:=mkT 1 [[#[5,0,1,0,1,0,1,1],#[5,0,1,0,1,0,1,1],#[5,0,1,0,1,0,1,1],#[5,0,1,0,1,0,1,1]],[#[6,0,23,0,1,7,24,3],#[6,0,26,0,1,7,27,6],#[6,0,29,0,1,7,30,9],#[6,0,32,0,1,7,33,12]],[#[7,0,25,0,1,8,26,5],#[7,7,35,7,24,22,43,15],#[7,14,45,7,27,36,60,31],#[7,21,55,7,30,50,77,53]],[#[8,0,27,0,1,9,28,7],#[8,15,45,8,26,39,61,28],#[8,58,91,22,43,125,150,75],#[8,129,165,36,60,267,295,160]],[#[9,0,29,0,1,10,30,9],#[9,24,56,9,28,58,81,45],#[9,136,171,39,61,282,308,149],#[9,448,486,125,150,906,935,385]]] [[#[3,0,21,0,1,0,0,1],#[5,0,24,0,1,0,0,4],#[5,0,27,0,1,0,0,7],#[5,0,30,0,1,0,0,10],#[5,0,33,0,1,0,0,13]],[#[3,0,21,0,1,0,0,1],#[6,0,26,7,24,0,0,8],#[6,7,36,7,27,0,0,21],#[6,14,46,7,30,0,0,40],#[6,21,56,7,33,0,0,65]],[#[3,0,21,0,1,0,0,1],#[7,0,28,8,26,0,0,12],#[7,22,53,22,43,0,0,43],#[7,72,106,36,60,0,0,106],#[7,150,187,50,77,0,0,213]],[#[3,0,21,0,1,0,0,1],#[8,0,30,9,28,0,0,16],#[8,39,72,39,61,0,0,73],#[8,194,230,125,150,0,0,224],#[8,577,616,267,295,0,0,545]]]
def uO:Nat->Nat->Nat:=mkU [[12,12,12,12],[25,28,31,34],[27,44,61,78],[29,76,179,338],[31,112,425,1194]]
def nO:Nat->Nat->Nat:=mkU [[1,1,1,1],[5,8,11,14],[13,29,51,79],[25,72,157,292],[41,145,381,837]]
theorem T5:tO.Ok 4 4:=#[∅,∅,by decide +kernel,by decide +kernel]
theorem Sw:Lim tO 4 4:=by unfold Lim;decide +kernel
theorem T1:Lw tO uO nO 4 4:=#[by decide +kernel,by decide +kernel,by decide +kernel]
end CH
namespace L3
open PySem PySem.Spec PyProof.Rows L2
def NoL (H:Hp):Prop:=∀a vs,H a≠some (.lst vs)
inductive Pl:D->Prop
 |non:Pl .non
 |bl (b:Bool):Pl (.bl b)
 |int (i:Int):Pl (.int i)
 |str (x:Str):Pl (.str x)
 |tup {xs:List D}(h:∀x∈xs,Pl x):Pl (.tup xs)
section
variable {X:Cx}{K:W.Frag}{a:Addr}{vs0:List V}{o:HO}
variable {st:Stmt}{rest':List Stmt}{t u:TS3}{pos:Pos}
end
section
variable {P:Program}{w:World}{K:W.Frag}{mg:Str->Option Value}{base:Heap}
end
open Classical in
section
variable {X:Cx}{pins:List (Addr×Obj)}{σ:St}{H:Hp}{s:Shared}
theorem Nr (I:Inv X pins σ H s){n:Nat}{A:Around}{a b:Addr}{vs ws:List V}{xs:List D}(ha:SqL X.K H a vs) (hb:SqL X.K H b ws) (hx:Iss X.K H vs xs) (hy:Iss X.K H ws xs) (fx:xs.all (Bf n)=true) (hu:A.units+1+n<cLine):SeqAt.EqAt A s (.ref a) (.ref b) true:=by
 by_cases hab:a=b
 .subst hab
  exact SeqAt.EqAt.same _
 obtain⟨its,r1,p1,_⟩:=I.list ha
 obtain⟨its2,r2,p2,_⟩:=I.list hb
 have l1:=r1.length
 have l2:=r2.length
 have k1:=hx.1
 have k2:=hy.1
 have key:=SeqAt.RcAt.lists (A:=A) (s:=s) (items:=its.toArray) (items2:=its2.toArray) (e:=fun _=>true) p1.isList p2.isList (by simp;omega) () (fun j h1 h2=>by
  have h1':j<its.length:=by simpa using h1
  have gx:xs[j]? = some (xs[j]' ()):=qAb ()
  have gv:vs[j]? = some (vs[j]' ()):=qAb ()
  have gw:ws[j]? = some (ws[j]' ()):=qAb ()
  obtain⟨u1,e1,q1⟩:=r1.get gv
  obtain⟨u2,e2,q2⟩:=r2.get gw
  rw[BE h1 e1,BE h2 e2]
  have f:=qAr.mp fx _ (qAo gx)
  have:=J9 I n A.in1 _ _ _ _ _ _ (by show A.units+1+n<cLine;omega) f f (hx.2 j _ _ gv gx) (hy.2 j _ _ gw gx) q1 q2
  rw[EM n _ f] at this
  exact this)
 rw[show(List.range its.toArray.size).all (fun _=>true)=true from qAr.mpr fun _ _=>rfl] at key
 exact SeqAt.EqAt.of_refs hab key
def Rx (K:W.Frag)(H:Hp)(n:Nat)(vs ws:List V):Prop:=vs.length=ws.length/\∀(j:Nat)(v w:V),vs[j]? = some v->ws[j]? = some w->∃c d us ts xs,v=.ref c/\w=.ref d/\SqL K H c us/\SqL K H d ts/\Iss K H us xs/\Iss K H ts xs/\xs.all (Bf n)=true
theorem Kv (I:Inv X pins σ H s){n:Nat}{A:Around}{vs ws:List V}{its its2:List Value}(h:Rx X.K H n vs ws) (r1:Bt vs its) (r2:Bt ws its2) (hu:A.units+2+n<cLine) (j:Nat) (h1:j<its.toArray.size) (h2:j<its2.toArray.size):SeqAt.EqAt A.in1 s its.toArray[j] its2.toArray[j] true:=by
 have l1:=r1.length
 have l2:=r2.length
 have h1':j<its.length:=by simpa using h1
 have h2':j<its2.length:=by simpa using h2
 have gv:vs[j]? = some (vs[j]' ()):=qAb ()
 have gw:ws[j]? = some (ws[j]' ()):=qAb ()
 obtain⟨u1,e1,q1⟩:=r1.get gv
 obtain⟨u2,e2,q2⟩:=r2.get gw
 rw[BE h1 e1,BE h2 e2]
 obtain⟨c,d,us,ts,xs,ec,ed,a1,a2,a3,a4,a5⟩:=h.2 j _ _ gv gw
 rw[ec] at q1
 rw[ed] at q2
 cases q1
 cases q2
 exact Nr I a1 a2 a3 a4 a5 (by show A.units+1+1+n<cLine;omega)
def rLL (X:Cx)(n:Nat)(b:Bool):R2:=fun x y H Q=>∃a c vs ws,x=.ref a/\y=.ref c/\SqL X.K H a vs/\SqL X.K H c ws/\Rx X.K H n vs ws/\Q (.bl b) H
theorem QR (n:Nat)(hu:X.A.units+2+n<cLine):OpR X (compareOp .Eq) (rLL X n true):=by
 intro pins s σ H x y v u Q I rx ry h
 obtain⟨a,b,vs,ws,rfl,rfl,ha,hb,al,q⟩:=h
 cases rx
 cases ry
 obtain⟨its,r1,p1,_⟩:=I.list ha
 obtain⟨its2,r2,p2,_⟩:=I.list hb
 have l1:=r1.length
 have l2:=r2.length
 have l3:=al.1
 refine SeqAt.RcAt.lists (A:=X.A) (s:=s) (items:=its.toArray) (items2:=its2.toArray) (e:=fun _=>true) p1.isList p2.isList (by simp;omega) () (Kv I al r1 r2 hu) X.prog X.w X.xe _ ?_
 rw[show(List.range its.toArray.size).all (fun _=>true)=true from qAr.mpr fun _ _=>rfl]
 exact#[.bl true,H,I,rfl,q]
theorem Qq (n:Nat)(hu:X.A.units+2+n<cLine):OpR X (compareOp .NotEq) (rLL X n false):=by
 intro pins s σ H x y v u Q I rx ry h
 obtain⟨a,b,vs,ws,rfl,rfl,ha,hb,al,q⟩:=h
 cases rx
 cases ry
 obtain⟨its,r1,p1,_⟩:=I.list ha
 obtain⟨its2,r2,p2,_⟩:=I.list hb
 have l1:=r1.length
 have l2:=r2.length
 have l3:=al.1
 refine SeqAt.RcNeAt.lists (A:=X.A) (s:=s) (items:=its.toArray) (items2:=its2.toArray) (e:=fun _=>true) p1.isList p2.isList (by simp;omega) () (Kv I al r1 r2 hu) X.prog X.w X.xe _ ?_
 rw[show(List.range its.toArray.size).all (fun _=>true)=true from qAr.mpr fun _ _=>rfl]
 exact#[.bl false,H,I,rfl,q]
end
open Classical in
noncomputable def nol (z:Hp):Hp:=fun a=>if ∃vs,z a=some (.lst vs) then none else z a
theorem ML (z:Hp):NoL (nol z):=fun a vs e=>by
 unfold nol at e
 split at e
 .cases e
 .rename_i h
  exact h #[vs,e]
theorem KU (z:Hp):AG (nol z) z:=fun a o e=>by
 unfold nol at e
 split at e
 .cases e
 .exact e
theorem LX {z:Hp}{a:Addr}{o:HO}(h:z a=some o) (n:∀vs,o≠.lst vs):nol z a=some o:=by
 unfold nol
 rw[if_neg]
 .exact h
 .rintro⟨vs,e⟩
  rw[h] at e
  exact n vs (qAj e)
section
variable {K:W.Frag}{z H:Hp}
theorem Pl.nol {x:D}(p:Pl x):∀{v:V},Is K z v x->Is K (nol z) v x:=by
 induction p with
 |non=>intro v h;cases h;exact .non
 |bl b=>intro v h;cases h;exact .bl b
 |int i=>intro v h;cases h;exact .int i
 |str x=>intro v h;cases h;exact .str x
 |tup hp ih =>
  intro v h
  cases h with
  |tup hs hl r =>
   refine .tup ?_ hl fun i v x h1 h2=>ih x (qAo h2) (r i v x h1 h2)
   rcases hs with (h|⟨o',h⟩)|h
   .exact .inl (.inl (LX h (fun vs e=>by cases e)))
   .exact .inl (.inr #[o',LX h (fun vs e=>by cases e)])
   .exact .inr h
theorem Iss.nol {vs:List V}{xs:List D}(h:Iss K z vs xs) (p:∀x∈xs,Pl x):Iss K (L3.nol z) vs xs:=#[h.1,fun i v x h1 h2=>(p x (qAo h2)).nol (h.2 i v x h1 h2)]
theorem Ext.fresh {q:HZ}(e:Ext #[H,z] q) (n:NoL z){a:Addr}{vs:List V}(h:q.z a=some (.lst vs)):H a=none:=by
 rcases e.new a _ h with h|h
 .exact absurd h (n a vs)
 .exact h
end
section
variable {X:Cx}{e:Expr}{es:List Expr}{t:TA}{pos:Pos}{U:Str->Prop}
theorem Ri {k:Nat}{x:Str}{ps:List Str}{sp:Sp3}{p:Pos}(xo:OY X U) (c:Cal X.prog X.w X.K X.mg X.base (CXU X.prog X.w) k x ps sp) (hr:Eh k X.A) (hg:Gl X x) (ha:PA X (e::es) t)
 (hdb:(x==("__debug__":Str))=false:=by decide) (he:starEach (e::es) X.env=(false,eval e X.env)::starEach es X.env:=by exact Ct rfl) (hpl:(backTo pos (starEach es X.env)).any (·.1)=false:=by exact DM rfl) :
 PE X (.Call (.Name x p) (e::es) [] pos) (Jd (Ag X.K X.mg sp) [] (fun cls _ H'=>∃y,X.mg y=some cls/\U y/\AG X.H₀ H') t):=by
 obtain⟨f,fd,F,hm,hk,hb⟩:=c.ex
 exact Mo (E:=fun cls _ H'=>∃y,X.mg y=some cls/\U y/\AG X.H₀ H') F hr hg hm hk hb .nil (fun pins σ H s e s' I h=>xo.pass pins σ H s e s' I h) ha hdb he hpl
end
section
variable {K:W.Frag}
def tLo (K:W.Frag)(i:Nat):TE:=tCB (fun xs H Q=>∃p ys,xs=[.ref p]/\(SqL K H p ys\/SqT K H p ys)/\∀l,H l=none->Q (.ref l) (upd H l (.lst ys))) (AY (Dd i) GA)
def tIn (K:W.Frag)(i:Nat)(n:Int):TE:=tOp (fun x y H Q=>Tb K x y H Q\/Tf K x y H Q) (Dd i) (tC (.int n))
theorem Bj {H:Hp}{p a:Addr}{o o':HO}(h:H a=some o) (n:H p=none):upd H p o' a=some o:=by
 rw[Af (fun e=>by rw[e,n] at h;cases h)]
 exact h
theorem D5 {H:Hp}{p:Addr}{o:HO}(n:H p=none):AG H (upd H p o):=fun _ _ h=>Bj h n
structure Hd (H:Hp)(p0 p1 p2 p3:Addr)(vo vc vw:List V):Prop where
 h0:H p0=some (.lst [.ref p1,.ref p2,.ref p3])
 h1:H p1=some (.lst vo)
 h2:H p2=some (.lst vc)
 h3:H p3=some (.lst vw)
theorem Hd.mono {H H':Hp}{p0 p1 p2 p3:Addr}{vo vc vw:List V}(h:Hd H p0 p1 p2 p3 vo vc vw) (s:AG H H'):Hd H' p0 p1 p2 p3 vo vc vw:=#[s _ _ h.h0,s _ _ h.h1,s _ _ h.h2,s _ _ h.h3]
theorem U7 {D:GB}{σ:St}{H:Hp}{ao ac aw:Addr}{vo vc vw:List V}{i4 i5 i6 i7:Nat}(s4:σ[i4]? = some (some (.ref ao))) (s5:σ[i5]? = some (some (.ref ac))) (s6:σ[i6]? = some (some (.ref aw)))
 (ho:H ao=some (.lst vo)) (hc:H ac=some (.lst vc)) (hw:H aw=some (.lst vw)) (go:∀p0 p1 p2 p3 H',AG H H'->Hd H' p0 p1 p2 p3 vo vc vw->D.nx (σ.set i7 (some (.ref p0))) H') :
 Q1 (P8 (AY (tLo K i4) (AY (tLo K i5) (AY (tLo K i6) GA)))) (CC i7) D σ H:=by
 refine#[_,s4,ao,vo,rfl,.inl (SqL.of ho),fun p1 n1=>?_]
 have c1:=Bj (o':=.lst vo) hc n1
 have w1:=Bj (o':=.lst vo) hw n1
 refine#[_,s5,ac,vc,rfl,.inl (SqL.of c1),fun p2 n2=>?_]
 have w2:=Bj (o':=.lst vc) w1 n2
 refine#[_,s6,aw,vw,rfl,.inl (SqL.of w2),fun p3 n3=>?_]
 refine#[by show 3<=sizeLine;decide,fun p0 n0=>?_]
 have e1:upd H p1 (.lst vo) p1=some (.lst vo):=Aj
 have e2:=Bj (o':=.lst vc) e1 n2
 have e3:=Bj (o':=.lst vw) e2 n3
 have f2:upd (upd H p1 (.lst vo)) p2 (.lst vc) p2=some (.lst vc):=Aj
 have f3:=Bj (o':=.lst vw) f2 n3
 have g3:upd (upd (upd H p1 (.lst vo)) p2 (.lst vc)) p3 (.lst vw) p3=some (.lst vw):=Aj
 exact go p0 p1 p2 p3 _ ((D5 n1).trans ((D5 n2).trans ((D5 n3).trans (D5 n0)))) #[Aj,Bj e3 n0,Bj f3 n0,Bj g3 n0]
theorem U5 {σ:St}{H:Hp}{p0 p1 p2 p3:Addr}{vo vc vw:List V}{i7:Nat}{Q:List V->Hp->Prop}(s7:σ[i7]? = some (some (.ref p0))) (h:Hd H p0 p1 p2 p3 vo vc vw) (q:Q [.ref p1,.ref p2,.ref p3] H):AY (tIn K i7 0) (AY (tIn K i7 1) (AY (tIn K i7 2) GA)) σ H Q :=
 #[_,s7,.inl #[p0,_,0,_,rfl,rfl,SqL.of h.h0,rfl,_,s7,.inl #[p0,_,1,_,rfl,rfl,SqL.of h.h0,rfl,_,s7,.inl #[p0,_,2,_,rfl,rfl,SqL.of h.h0,rfl,q]]]]
theorem Is.lst_get {z:Hp}{v:V}{xs:List D}(h:Is K z v (.lst xs)):∃a vs,v=.ref a/\z a=some (.lst vs)/\Iss K z vs xs:=by
 cases h with
 |lst ha hl r=>exact#[_,_,rfl,ha,hl,r]
theorem Iss.plain {z H:Hp}{vs:List V}{xs:List D}(h:Iss K z vs xs) (p:∀x∈xs,Pl x) (s:AG (L3.nol z) H):Iss K H vs xs:=by
 have:=h.nol p
 exact#[this.1,fun i v x h1 h2=>(this.2 i v x h1 h2).mono s]
structure Fd (K:W.Frag)(H z:Hp)(f:Addr)(fs:List V)(rows:List (List D)):Prop where
 h:H f=some (.lst fs)
 l:fs.length=rows.length
 r:∀(j:Nat)(v:V)(xs:List D),fs[j]? = some v->rows[j]? = some xs->∃b us,v=.ref b/\H b=some (.lst us)/\Iss K z us xs
theorem VF {E:GB}{σ:St}{H z:Hp}{f:Addr}{fs:List V}{rows:List (List D)}{i8 i9:Nat}(s8:σ[i8]? = some (some (.ref f))) (F:Fd K H z f fs rows) (l9:rows.length<=1000)
 (go:∀d H' ys,AG H H'->H d=none->H' d=some (.lst ys)->ys.length=rows.length->(∀(j:Nat)(v:V)(xs:List D),ys[j]? = some v->rows[j]? = some xs->∃c us,v=.ref c/\H c=none/\H' c=some (.lst us)/\Iss K z us xs)->E.nx (σ.set i9 (some (.ref d))) H') :
 QF i9 (Ji K [] (QW K (Dd i8)) (fun _ _ H Q=>Q true H) (fun _=>tLo K 0)) E σ H:=by
 refine#[.ref f,s8,f,rfl,.inl #[#[fs,SqL.of F.h],fun d nd kd=>?_]]
 have fl:=F.l
 have sz:(1000:Nat)<sizeLine:=∅
 refine#[fun i m ys H'=>m=fs.length-i/\i<=fs.length/\AG H H'/\ys.length=i/\∀(j:Nat)(v:V)(xs:List D),ys[j]? = some v->rows[j]? = some xs->∃c us,v=.ref c/\H c=none/\c≠d/\H' c=some (.lst us)/\Iss K z us xs,#[fs.length,rfl,qAS _,D5 nd,rfl,fun j v xs h=>(by cases h)],?_]
 rintro i m ys H' hd ⟨rfl,il,sm,yl,hy⟩
 by_cases lt:i<fs.length
 .refine .inr #[#[fs,fs[i],SqL.of (sm _ _ F.h),qAb lt],fun x H2 hx=>?_]
  obtain⟨rfl,hx⟩:=hx
  have gx:=hx fs (SqL.of (sm _ _ F.h))
  have gr:rows[i]? = some (rows[i]' ()):=qAb ()
  obtain⟨b,us,rfl,hb,iu⟩:=F.r i x _ gx gr
  refine#[_,rfl,b,us,rfl,.inl (SqL.of (sm _ _ hb)),fun c nc=>?_]
  have hc:H c=none:=by
   cases e:H c with
   |none=>rfl
   |some o=>rw[sm _ _ e] at nc;cases nc
  have cd:c≠d:=fun e=>by rw[e,hd] at nc;cases nc
  refine#[Bj hd nc,(),fs.length-(i+1),(),rfl,lt,fun a o e=>?_,by rw[qAn,yl];rfl,fun j v xs h1 h2=>?_]
  .have ad:a≠d:=fun z=>by rw[z,nd] at e;cases e
   rw[Af ad]
   exact Bj (sm _ _ e) nc
  .by_cases jl:j<ys.length
   .rw[qAI jl] at h1
    obtain⟨c',us',e1,e2,e3,e4,e5⟩:=hy j v xs h1 h2
    exact#[c',us',e1,e2,e3,by rw[Af e3];exact Bj e4 nc,e5]
   .have ji:j=i:=by
     have:=(qAf.mp h1).1
     rw[qAn] at this
     have:j<ys.length+1:=this
     omega
    subst ji
    rw[qAK (),yl,qCy] at h1
    cases h1
    rw[gr] at h2
    cases h2
    exact#[c,us,rfl,hc,cd,by rw[Af cd];exact Aj,iu]
 .have e:i=fs.length:=()
  subst e
  exact .inl #[#[fs,SqL.of (sm _ _ F.h),qAd _],go d H' ys sm nd hd () fun j v xs h1 h2=>by
   obtain⟨c,us,e1,e2,_,e4,e5⟩:=hy j v xs h1 h2
   exact#[c,us,e1,e2,e4,e5]]
end
section
variable {K:W.Frag}
theorem UO {sp:Sp3}{mg:Str->Option Value}{Ex:XK}{σ:St}{H z:Hp}{p0 p1 p2 p3:Addr}{vo vc vw:List V}{O C W:List D}{i7:Nat}{Q:VK}{P:List (List D)->Prop}(s7:σ[i7]? = some (some (.ref p0))) (h:Hd H p0 p1 p2 p3 vo vc vw) (sz:AG z H)
 (io:Iss K z vo O) (ic:Iss K z vc C) (iw:Iss K z vw W) (po:∀x∈O,Pl x) (pc:∀x∈C,Pl x) (pw:∀x∈W,Pl x) (hsp:sp [.r O,.r C,.r W] (fun s=>∃rows:List (List D),s=.l (rows.map .lst)/\P rows) NoU)
 (go:∀f fs rows H' z',P rows->AG H H'->H f=none->z' f=none->AG z' H'->AG (nol z) z'->(∀a vs,z' a=some (.lst vs)->H a=none)->Iss K z' fs (rows.map .lst)->Fd K H' z' f fs rows->(∀(j:Nat)(b:Addr),j<rows.length->fs[j]? = some (.ref b)->H b=none)->Q (.ref f) H') :
 Jd (Ag K mg sp) [] Ex (AY (tIn K i7 0) (AY (tIn K i7 1) (AY (tIn K i7 2) GA))) σ H Q:=by
 refine U5 s7 h #[nol z,_,_,NoU,(KU z).trans sz,#[rfl,fun i v s h1 h2=>?_],hsp,?_,fun _ _ _ _ _ u=>u.elim]
 .match i,h1,h2 with
  |0,h1,h2=>cases h1;cases h2;exact#[#[_,_,rfl,SqL.of h.h1,io.nol po],rfl]
  |1,h1,h2=>cases h1;cases h2;exact#[#[_,_,rfl,SqL.of h.h2,ic.nol pc],rfl]
  |2,h1,h2=>cases h1;cases h2;exact#[#[_,_,rfl,SqL.of h.h3,iw.nol pw],rfl]
  |n+3,h1,h2=>cases h1
 .rintro s v q e is fr ⟨rows,rfl,hP⟩
  obtain⟨f,fs,rfl,hf,il,ir⟩:=is
  obtain⟨nf,_,zf⟩:=fr _ f rfl rfl
  have key:∀(j:Nat)(v:V)(xs:List D),fs[j]? = some v->rows[j]? = some xs->∃b us,v=.ref b/\q.z b=some (.lst us)/\Iss K q.z us xs:=fun j v xs h1 h2=>(ir j v (.lst xs) h1 (by rw[qAh,h2];rfl)).lst_get
  refine go f fs rows q.h q.z hP e.hh nf zf e.sub e.zz (fun a vs ha=>e.fresh (ML z) ha) #[il,ir] #[hf,by rw[il,qAa],fun j v xs h1 h2=>?_] fun j b jl hj=>?_
  .obtain⟨b,us,e1,e2,e3⟩:=key j v xs h1 h2
   exact#[b,us,e1,e.sub _ _ e2,e3]
  .obtain⟨b',us,e1,e2,_⟩:=key j _ _ hj (qAb jl)
   cases e1
   exact e.fresh (ML z) e2
theorem VL {E:GB}{σ:St}{H:Hp}{f b:Addr}{fr ur:List V}{u:V}{i8:Nat}(s8:σ[i8]? = some (some (.ref f))) (hf:H f=some (.lst (.ref b::fr))) (hb:H b=some (.lst (u::ur))) (l:ur.length<=1000)
 (go:E.nx σ (upd H b (.lst ((u::ur)++[u])))) :
 Jn (tBM K "list" Fl (tIn K i8 0) (AY (tOp (fun x y H Q=>Tb K x y H Q\/Tf K x y H Q) (tIn K i8 0) (tC (.int 0))) GA)) E σ H:=by
 have sz:(1001:Nat)<sizeLine:=∅
 have a0:∀(x:V)(xs:List V),atI (x::xs) 0=some x:=fun x xs=>atI_nat (j:=0) rfl
 exact#[.ref f,s8,.inl #[f,_,0,.ref b,rfl,rfl,SqL.of hf,a0 _ _,Or.inl #[rfl,_,SqL.of hb],.ref f,s8,.inl #[f,_,0,.ref b,rfl,rfl,SqL.of hf,a0 _ _,.inl #[b,_,0,u,rfl,rfl,SqL.of hb,a0 _ _,b,_,u,rfl,rfl,hb,by show ur.length+1<sizeLine;omega,go]]]]
theorem Vr {E:GB}{σ:St}{H:Hp}{f:Addr}{fs:List V}{i8:Nat}(s8:σ[i8]? = some (some (.ref f))) (hf:H f=some (.lst fs)) (l:fs.length<=1000)
 (go:∀p,H p=none->E.nx σ (upd (upd H p (.lst [])) f (.lst (fs++[.ref p])))) :
 Jn (tBM K "list" Fl (Dd i8) (AY (P8 GA) GA)) E σ H:=by
 have sz:(1000:Nat)<sizeLine:=∅
 exact#[.ref f,s8,Or.inl #[rfl,_,SqL.of hf],qAS _,fun p np=>#[f,fs,.ref p,rfl,rfl,Bj hf np,(),go p np]]
end
section
variable {X:Cx}
theorem Vy {n:Nat}{spw:Sp3}{mg:Str->Option Value}{Ex:XK}{E:GB}{tn:TS}{σ:St}{H z z':Hp}{p0 p1 p2 p3 ao ac aw f:Addr}{vo vc vw fs:List V}{O C W:List D}{rows:List (List D)}{i4 i5 i6 i7 i8:Nat}
 (s4:σ[i4]? = some (some (.ref ao))) (s5:σ[i5]? = some (some (.ref ac))) (s6:σ[i6]? = some (some (.ref aw))) (s7:σ[i7]? = some (some (.ref p0))) (s8:σ[i8]? = some (some (.ref f)))
 (h:Hd H p0 p1 p2 p3 vo vc vw) (ho:H ao=some (.lst vo)) (hc:H ac=some (.lst vc)) (hw:H aw=some (.lst vw)) (hf:H f=some (.lst fs)) (sz:AG z H) (sz':AG z' H) (nz:AG (nol z) z')
 (io:Iss X.K z vo O) (ic:Iss X.K z vc C) (iw:Iss X.K z vw W) (po:∀x∈O,Pl x) (pc:∀x∈C,Pl x) (pw:∀x∈W,Pl x) (do_:O.all (Bf n)=true) (dc:C.all (Bf n)=true) (dw:W.all (Bf n)=true) (iff:Iss X.K z' fs (rows.map .lst))
 (hsp:spw [.r O,.r C,.r W,.r (rows.map .lst)] (fun s=>s=.d (.bl true)) NoU) (go:∀H',AG H H'->E.nx σ H') :
 Td (tOr (NZ (tOp (rLL X n false) (Dd i7) (P8 (AY (Dd i4) (AY (Dd i5) (AY (Dd i6) GA)))))) (TM (tB (Jd (Ag X.K mg spw) [] Ex (AY (Dd i4) (AY (Dd i5) (AY (Dd i6) (AY (Dd i8) GA)))))))) tn Lj E σ H:=by
 refine#[.ref p0,s7,.ref ao,s4,.ref ac,s5,.ref aw,s6,(by show 3<=sizeLine;decide),fun p np=>?_]
 have sp:AG H (upd H p (.lst [.ref ao,.ref ac,.ref aw])):=D5 np
 have h':=h.mono sp
 have mo:∀{vs:List V}{xs:List D},Iss X.K z vs xs->Iss X.K (upd H p (.lst [.ref ao,.ref ac,.ref aw])) vs xs:=fun i=>#[i.1,fun j v x h1 h2=>(i.2 j v x h1 h2).mono (sz.trans sp)]
 refine#[p0,p,_,_,rfl,rfl,SqL.of h'.h0,SqL.of Aj,#[rfl,fun j v w h1 h2=>?_],false,rfl,?_]
 .match j,h1,h2 with
  |0,h1,h2=>cases h1;cases h2;exact#[_,_,_,_,O,rfl,rfl,SqL.of h'.h1,SqL.of (sp _ _ ho),mo io,mo io,do_]
  |1,h1,h2=>cases h1;cases h2;exact#[_,_,_,_,C,rfl,rfl,SqL.of h'.h2,SqL.of (sp _ _ hc),mo ic,mo ic,dc]
  |2,h1,h2=>cases h1;cases h2;exact#[_,_,_,_,W,rfl,rfl,SqL.of h'.h3,SqL.of (sp _ _ hw),mo iw,mo iw,dw]
  |n+3,h1,h2=>cases h1
 .refine#[.ref ao,s4,.ref ac,s5,.ref aw,s6,.ref f,s8,z',_,_,NoU,sz'.trans sp,#[rfl,fun i v s h1 h2=>?_],hsp,?_,fun _ _ _ _ _ u=>u.elim]
  .match i,h1,h2 with
   |0,h1,h2=>cases h1;cases h2;exact#[#[_,_,rfl,SqL.of (sp _ _ ho),io.plain po nz],rfl]
   |1,h1,h2=>cases h1;cases h2;exact#[#[_,_,rfl,SqL.of (sp _ _ hc),ic.plain pc nz],rfl]
   |2,h1,h2=>cases h1;cases h2;exact#[#[_,_,rfl,SqL.of (sp _ _ hw),iw.plain pw nz],rfl]
   |3,h1,h2=>cases h1;cases h2;exact#[#[_,_,rfl,SqL.of (sp _ _ hf),iff],rfl]
   |n+4,h1,h2=>cases h1
  .rintro s v q e is fr rfl
   cases is
   exact#[true,rfl,go _ (sp.trans e.hh)]
theorem U8 {n:Nat}{sp:Sp3}{mg:Str->Option Value}{Ex:XK}{E:GB}{σ:St}{H z:Hp}{p0 p1 p2 p3 d:Addr}{vo vc vw ys:List V}{O C W:List D}{rows:List (List D)}{i7 i9:Nat}{P:List (List D)->Prop}
 (s7:σ[i7]? = some (some (.ref p0))) (s9:σ[i9]? = some (some (.ref d))) (h:Hd H p0 p1 p2 p3 vo vc vw) (sz:AG z H)
 (io:Iss X.K z vo O) (ic:Iss X.K z vc C) (iw:Iss X.K z vw W) (po:∀x∈O,Pl x) (pc:∀x∈C,Pl x) (pw:∀x∈W,Pl x) (hsp:sp [.r O,.r C,.r W] (fun s=>∃rows:List (List D),s=.l (rows.map .lst)/\P rows) NoU)
 (hd:H d=some (.lst ys)) (yl:ys.length=rows.length) (hy:∀(j:Nat)(v:V)(xs:List D),ys[j]? = some v->rows[j]? = some xs->∃c us,v=.ref c/\H c=some (.lst us)/\Iss X.K H us xs) (un:∀r,P r->r=rows) (dp:∀r∈rows,r.all (Bf n)=true)
 (go:∀H',AG H H'->E.rt (.bl true) H') :
 SV (tOp (rLL X n true) (Jd (Ag X.K mg sp) [] Ex (AY (tIn X.K i7 0) (AY (tIn X.K i7 1) (AY (tIn X.K i7 2) GA)))) (Dd i9)) E σ H:=by
 refine UO s7 h sz io ic iw po pc pw hsp fun f fs rows' H' z' hP sm _ _ sz' _ _ _ F _=>?_
 cases un _ hP
 have fl:=F.l
 refine#[.ref d,s9,f,d,fs,ys,rfl,rfl,SqL.of F.h,SqL.of (sm _ _ hd),#[by rw[fl,yl],fun j v w h1 h2=>?_],go _ sm]
 have jl:j<rows.length:=by
  have:=(qAf.mp h1).1
  omega
 have g:=qAb jl
 obtain⟨b,us,rfl,hb,ib⟩:=F.r j v _ h1 g
 obtain⟨c,ts,rfl,hc,ic'⟩:=hy j w _ h2 g
 exact#[b,c,us,ts,_,rfl,rfl,SqL.of hb,SqL.of (sm _ _ hc),#[ib.1,fun i v x e1 e2=>(ib.2 i v x e1 e2).mono sz'],#[ic'.1,fun i v x e1 e2=>(ic'.2 i v x e1 e2).mono sm],dp _ (qA3 jl)]
end
section
variable {X:Cx}
theorem Fg {σ:St}{i j:Nat}{v w:Option V}(h:σ[i]? = some w) (n:i≠j):(σ.set j v)[i]? = some w:=by
 rw[qBp (Ne.symm n)]
 exact h
theorem Pq {σ:St}{i:Nat}{v:Option V}(l:i<σ.length):(σ.set i v)[i]? = some v:=by
 rw[qBa l]
theorem JC {H H':Hp}{a:Addr}{o:HO}(s:AG H H') (n:H a=none):AG H (upd H' a o):=fun b o' h=>by
 rw[Af (fun e=>by rw[e,n] at h;cases h)]
 exact s _ _ h
theorem RS {H:Hp}{a b:Addr}{o:HO}(h:H a=some o) (n:H b=none):a≠b:=fun e=>by
 rw[e,n] at h
 cases h
def UD (X:Cx)(spr:Sp3)(Ex:XK)(i7:Nat):TE:=Jd (Ag X.K X.mg spr) [] Ex (AY (tIn X.K i7 0) (AY (tIn X.K i7 1) (AY (tIn X.K i7 2) GA)))
def Rt (X:Cx)(n m:Nat)(spr spw:Sp3)(E1 E2 E3:XK)(tn t4:TS)(i4 i5 i6 i7 i8 i9:Nat):TS :=
 Nn (Q1 (P8 (AY (tLo X.K i4) (AY (tLo X.K i5) (AY (tLo X.K i6) GA)))) (CC i7))
 (Nn (Q1 (UD X spr E1 i7) (CC i8))
 (Nn (Td (tOr (NZ (tOp (rLL X n false) (Dd i7) (P8 (AY (Dd i4) (AY (Dd i5) (AY (Dd i6) GA)))))) (TM (tB (Jd (Ag X.K X.mg spw) [] E2 (AY (Dd i4) (AY (Dd i5) (AY (Dd i6) (AY (Dd i8) GA)))))))) tn Lj)
 (Nn t4
 (Nn (QF i9 (Ji X.K [] (QW X.K (Dd i8)) (fun _ _ H Q=>Q true H) (fun _=>tLo X.K 0)))
 (Nn (Jn (tBM X.K "list" Fl (tIn X.K i8 0) (AY (tOp (fun x y H Q=>Tb X.K x y H Q\/Tf X.K x y H Q) (tIn X.K i8 0) (tC (.int 0))) GA)))
 (Nn (Jn (tBM X.K "list" Fl (Dd i8) (AY (P8 GA) GA)))
 (Nn (SV (tOp (rLL X m true) (UD X spr E3 i7) (Dd i9))) Lj)))))))
theorem SR {n m:Nat}{spr spw:Sp3}{E1 E2 E3:XK}{tn t4:TS}{i1 i2 i4 i5 i6 i7 i8 i9:Nat}{E:GB}{σ:St}{H z:Hp}{ao ac aw:Addr}{vo vc vw:List V}{O C W:List D}{u1 u2:V}{P:List (List D)->Prop}
 (nd:[i1,i2,i4,i5,i6,i7,i8,i9].Nodup) (lt:i7<σ.length/\i8<σ.length/\i9<σ.length)
 (s1:σ[i1]? = some (some u1)) (s2:σ[i2]? = some (some u2)) (s4:σ[i4]? = some (some (.ref ao))) (s5:σ[i5]? = some (some (.ref ac))) (s6:σ[i6]? = some (some (.ref aw)))
 (ho:H ao=some (.lst vo)) (hc:H ac=some (.lst vc)) (hw:H aw=some (.lst vw)) (sz:AG z H)
 (io:Iss X.K z vo O) (ic:Iss X.K z vc C) (iw:Iss X.K z vw W) (po:∀x∈O,Pl x) (pc:∀x∈C,Pl x) (pw:∀x∈W,Pl x) (do_:O.all (Bf n)=true) (dc:C.all (Bf n)=true) (dw:W.all (Bf n)=true)
 (hsp:spr [.r O,.r C,.r W] (fun s=>∃rows:List (List D),s=.l (rows.map .lst)/\P rows) NoU)
 (hP:∀rows,P rows->(∃x r rs,rows=(x::r)::rs/\r.length<=1000)/\rows.length<=1000/\(∀r∈rows,∀x∈r,Pl x)/\(∀r∈rows,r.all (Bf m)=true)/\(∀r,P r->r=rows)/\spw [.r O,.r C,.r W,.r (rows.map .lst)] (fun s=>s=.d (.bl true)) NoU)
 (h4:∀(E':GB)(σ':St)(H':Hp),σ'[i1]? = some (some u1)->σ'[i2]? = some (some u2)->(∀H'',AG H' H''->E'.rt (.bl true) H'')->E'.nx σ' H'->t4 E' σ' H')
 (go:∀H',AG H H'->E.rt (.bl true) H'):Rt X n m spr spw E1 E2 E3 tn t4 i4 i5 i6 i7 i8 i9 E σ H:=by
 simp only[qBl,qAk,qA4,or_false,not_or] at nd
 obtain⟨⟨_,_,_,_,n17,n18,n19⟩,⟨_,_,_,n27,n28,n29⟩,⟨_,_,n47,n48,n49⟩,⟨_,n57,n58,n59⟩,⟨n67,n68,n69⟩,⟨n78,n79⟩,n89,_⟩:=nd
 obtain⟨l7,l8,l9⟩:=lt
 refine U7 s4 s5 s6 ho hc hw fun p0 p1 p2 p3 H1 sm1 hd1=>?_
 have t7:(σ.set i7 (some (.ref p0)))[i7]? = some (some (.ref p0)):=Pq l7
 refine UO (P:=P) t7 hd1 (sz.trans sm1) io ic iw po pc pw hsp fun f fs rows H2 z' hp sm2 nf zf sz' nz fre iff F fb=>?_
 obtain⟨⟨x,r,rs,er,rl⟩,rl9,pl,dp,un,hw9⟩:=hP rows hp
 let τ:St:=(σ.set i7 (some (.ref p0))).set i8 (some (.ref f))
 have q8:τ[i8]? = some (some (.ref f)):=Pq (by rw[qB9];exact l8)
 have q7:τ[i7]? = some (some (.ref p0)):=Fg t7 n78
 have q4:τ[i4]? = _:=Fg (Fg s4 n47) n48
 have q5:τ[i5]? = _:=Fg (Fg s5 n57) n58
 have q6:τ[i6]? = _:=Fg (Fg s6 n67) n68
 have q1:τ[i1]? = _:=Fg (Fg s1 n17) n18
 have q2:τ[i2]? = _:=Fg (Fg s2 n27) n28
 have m2:=sm1.trans sm2
 refine Vy q4 q5 q6 q7 q8 (hd1.mono sm2) (m2 _ _ ho) (m2 _ _ hc) (m2 _ _ hw) F.h (sz.trans m2) sz' nz io ic iw po pc pw do_ dc dw iff hw9 fun H3 sm3=>?_
 have m3:=sm2.trans sm3
 refine h4 _ _ _ q1 q2 (fun H'' s=>go _ (sm1.trans (m3.trans s))) ?_
 have F3:Fd X.K H3 z' f fs rows:=#[sm3 _ _ F.h,F.l,fun j v xs a b=>by
  obtain⟨c,us,e1,e2,e3⟩:=F.r j v xs a b
  exact#[c,us,e1,sm3 _ _ e2,e3]]
 refine VF q8 F3 rl9 fun d H5 ys sm5 nd5 hd5 yl hy=>?_
 have m5:=m3.trans sm5
 subst er
 obtain⟨v0,fr,rfl⟩:∃v0 fr,fs=v0::fr:=by
  cases fs with
  |nil=>exact absurd F.l (by intro h;cases h)
  |cons a b=>exact#[a,b,rfl]
 obtain⟨b0,us0,rfl,hb0,ib0⟩:=F.r 0 v0 _ rfl rfl
 obtain⟨u,ur,rfl⟩:∃u ur,us0=u::ur:=by
  cases us0 with
  |nil=>exact absurd ib0.1 (by intro h;cases h)
  |cons a b=>exact#[a,b,rfl]
 have ul:ur.length=r.length:=Nat.succ.inj ib0.1
 have nb0:H1 b0=none:=fb 0 b0 (Nat.zero_lt_succ _) rfl
 have hb5:H5 b0=_:=sm5 _ _ (sm3 _ _ hb0)
 have hf5:H5 f=_:=sm5 _ _ F3.h
 let ρ:St:=τ.set i9 (some (.ref d))
 have k8:ρ[i8]? = some (some (.ref f)):=Fg q8 n89
 have k7:ρ[i7]? = some (some (.ref p0)):=Fg q7 n79
 have k9:ρ[i9]? = some (some (.ref d)):=Pq (by rw[qB9,qB9];exact l9)
 refine VL k8 hf5 hb5 () ?_
 have bf:f≠b0:=fun e=>by
  obtain⟨b',us',e1,e2,_⟩:=(iff.2 0 _ (.lst (x::r)) rfl rfl).lst_get
  cases e1
  rw[<-e,zf] at e2
  cases e2
 have hf6:upd H5 b0 (.lst ((u::ur)++[u])) f=some (.lst (.ref b0::fr)):=by rw[Af bf];exact hf5
 have fl:fr.length+1=rs.length+1:=F.l
 have rl9':rs.length+1<=1000:=rl9
 refine Vr k8 hf6 (by show fr.length+1<=1000;omega) fun p np=>?_
 have m6:AG H1 (upd H5 b0 (.lst ((u::ur)++[u]))):=JC m5 nb0
 have np1:H1 p=none:=m6.free np
 have m7:=JC (a:=f) (o:=.lst (.ref b0::fr++[.ref p])) (JC (a:=p) (o:=.lst []) m6 np1) nf
 have st:∀a o,H5 a=some o->a≠b0->a≠f->upd (upd (upd H5 b0 (.lst ((u::ur)++[u]))) p (.lst [])) f (.lst (.ref b0::fr++[.ref p])) a=some o:=fun a o h n1 n2=>by
  have h6:upd H5 b0 (.lst ((u::ur)++[u])) a=some o:=by rw[Af n1];exact h
  rw[Af n2,Af (RS h6 np)]
  exact h6
 have nol7:AG (nol z') (upd (upd (upd H5 b0 (.lst ((u::ur)++[u]))) p (.lst [])) f (.lst (.ref b0::fr++[.ref p]))):=fun a o h=>by
  have hz:=KU z' _ _ h
  refine st a o (sm5 _ _ (sm3 _ _ (sz' _ _ hz))) (fun e=>?_) (RS hz zf)
  obtain⟨b',us',e1,e2,_⟩:=(iff.2 0 _ (.lst (x::r)) rfl rfl).lst_get
  cases e1
  rw[<-e,hz] at e2
  cases e2
  exact ML z' _ _ h
 refine U8 (rows:=(x::r)::rs) (P:=P) k7 k9 (hd1.mono m7) ((sz.trans sm1).trans m7) io ic iw po pc pw hsp (st _ _ hd5 (fun e=>by rw[e,sm3 _ _ hb0] at nd5;cases nd5) (fun e=>by rw[e,F3.h] at nd5;cases nd5)) yl (fun j v xs h1 h2=>?_) un dp fun H' s=>go _ (sm1.trans (m7.trans s))
 obtain⟨c,us,e1,e2,e3,e4⟩:=hy j v xs h1 h2
 exact#[c,us,e1,st _ _ e3 (fun e=>by rw[e,sm3 _ _ hb0] at e2;cases e2) (fun e=>by rw[e,F3.h] at e2;cases e2),e4.plain (pl _ (qAo h2)) nol7]
end
section
variable {X:Cx}
def TC (n m:Nat)(spr spw:Sp3)(i1 i2 i4 i5 i6:Nat):TS3:=fun D τ=>∃(O C W:List L3.D)(a b:Int)(P:List (List L3.D)->Prop),τ[i1]? = some (some (.d (.int a)))/\τ[i2]? = some (some (.d (.int b)))/\τ[i4]? = some (some (.l O))/\τ[i5]? = some (some (.l C))/\τ[i6]? = some (some (.l W)) /\
 ((∀x∈O,Pl x)/\(∀x∈C,Pl x)/\∀x∈W,Pl x)/\(O.all (Bf n)=true/\C.all (Bf n)=true/\W.all (Bf n)=true)/\(a.natAbs<2^60/\b.natAbs<2^60) /\
 spr [.r O,.r C,.r W] (fun s=>∃rows:List (List L3.D),s=.l (rows.map .lst)/\P rows) NoU /\
 (∀rows,P rows->(∃x r rs,rows=(x::r)::rs/\r.length<=1000)/\rows.length<=1000/\(∀r∈rows,∀x∈r,Pl x)/\(∀r∈rows,r.all (Bf m)=true)/\(∀r,P r->r=rows)/\spw [.r O,.r C,.r W,.r (rows.map .lst)] (fun s=>s=.d (.bl true)) NoU)/\D.rt (.d (.bl true))
theorem Qg {n m:Nat}{spr spw:Sp3}{E1 E2 E3:XK}{tn t4:TS}{i1 i2 i4 i5 i6 i7 i8 i9:Nat}{st:List Stmt}(h:PSs X st (Rt X n m spr spw E1 E2 E3 tn t4 i4 i5 i6 i7 i8 i9)) (nd:[i1,i2,i4,i5,i6,i7,i8,i9].Nodup) (lt:i7<X.N.length/\i8<X.N.length/\i9<X.N.length)
 (h4:∀(a b:Int)(E':GB)(σ':St)(H':Hp),a.natAbs<2^60->b.natAbs<2^60->σ'[i1]? = some (some (.int a))->σ'[i2]? = some (some (.int b))->(∀H'',AG H' H''->E'.rt (.bl true) H'')->E'.nx σ' H'->t4 E' σ' H'):CY X st (TC n m spr spw i1 i2 i4 i5 i6):=by
 refine#[fun pins s σ H D2 I hh=>h pins s σ H D2 I ?_]
 obtain⟨B,z,τ,D3,r,⟨O,C,W,a,b,P,g1,g2,g4,g5,g6,⟨po,pc,pw⟩,⟨do_,dc,dw⟩,⟨la,lb⟩,hsp,hP,hrt⟩,c⟩:=hh
 obtain⟨v1,s1,q1⟩:=r.val _ _ g1
 obtain⟨v2,s2,q2⟩:=r.val _ _ g2
 obtain⟨v4,s4,ao,vo,rfl,ho,io⟩:=r.val _ _ g4
 obtain⟨v5,s5,ac,vc,rfl,hc,ic⟩:=r.val _ _ g5
 obtain⟨v6,s6,aw,vw,rfl,hw,iw⟩:=r.val _ _ g6
 cases q1
 cases q2
 exact SR nd (by rw[I.len];exact lt) s1 s2 s4 s5 s6 ho hc hw r.ext.sub io ic iw po pc pw do_ dc dw hsp hP (fun E' σ' H'=>h4 a b E' σ' H' la lb) fun H' s=>c.rt (.d (.bl true)) (.bl true) #[H',z] #[r.ext.hh.trans s,r.ext.zz,AG.trans r.ext.sub s,r.ext.new] (Is.bl true) EB hrt
end
theorem UQ {A:Around}{k n:Nat}(hr:Eh k A) (hn:n<=100):A.units+2+n<cLine:=by have:=hr.un;omega
theorem Vq {i1 i2:Nat}(a b:Int) (E':GB) (σ':St) (H':Hp) (la:a.natAbs<2^60) (lb:b.natAbs<2^60) (s1:σ'[i1]? = some (some (.int a))) (s2:σ'[i2]? = some (some (.int b))) (h1:∀H'',AG H' H''->E'.rt (.bl true) H'') (h2:E'.nx σ' H') :
 Td (NZ (tOp (rI0 fun i j=>.bl (decide (j<i))) (tOp (rI S5 fun i j=>.int (i*j)) (Dd i1) (Dd i2)) (tC (.int 4)))) (Nn (SV (tC (.bl true))) Lj) Lj E' σ' H':=by
 refine#[.int a,s1,.int b,s2,a,b,rfl,rfl,.inl #[(),()],a*b,4,rfl,rfl,_,rfl,?_]
 by_cases h:4<a*b
 .rw[decide_eq_true h]
  exact h1 _ (AG.refl _)
 .rw[decide_eq_false h]
  exact h2
theorem QD {X:Cx}{e:Expr}{es:List Expr}{t:TA}{pos:Pos}{k k':Nat}{x:Str}{ps:List Str}{sp:Sp3}{p:Pos}(hr:Eh k' X.A) (c:Cal X.prog X.w X.K X.mg X.base (CXU X.prog X.w) k x ps sp) (ha:PA X (e::es) t) (hk:k<=k':=by decide) (hg:Gl X x:=by exact rfl)
 (hdb:(x==("__debug__":Str))=false:=by decide) (he:starEach (e::es) X.env=(false,eval e X.env)::starEach es X.env:=by exact Ct rfl) (hpl:(backTo pos (starEach es X.env)).any (·.1)=false:=by exact DM rfl) :
 PE X (.Call (.Name x p) (e::es) [] pos) (Jd (Ag X.K X.mg sp) [] (fun cls _ H'=>∃y,X.mg y=some cls/\NoU y/\AG X.H₀ H') t):=Ri Mu c (hr.mono hk) hg ha hdb he hpl
end L3
namespace CL
open PySem L2 L3 CH
def pD (p:Int×Int×Rat):D:=tp p.1 p.2.1
theorem _root_.CH.Wq.cross {k n:Nat}{a b c d:Int}{q:Rat}(h:Wq k a b q) (g:Wq n c d q):a*d=c*b:=by
 have e1:=h.eq
 have e2:=g.eq
 rw[<-qBA,qAl,qAl,e1,e2]
 grind
theorem _root_.CH.Wq.nn {k:Nat}{a b:Int}{q:Rat}(h:Wq k a b q) (hq:0<=q):0<=a:=by
 have e:=h.eq
 have:(0:Rat)<=(a:Rat):=by rw[e];exact qAC hq (qBR.mpr (Int.le_of_lt h.pos))
 exact qBR.mp this
theorem _root_.CH.Crv.rise {cs:Cs}{m:Rat}(h:Crv cs m):Ih cs m:=#[#[h.ne,h.t0,h.v0,h.up,h.vu],h.m0]
def cl (ns:List Int)(k:Int):Int:=if k<ns.length then cell ns k else 5*k+2
theorem MB {va g x ti u p:Int}(u0:0<u) (p0:0<p):Rat.divInt (va+g*x) (u*p)=Rat.divInt va (u*p)+Rat.divInt x p*(Rat.divInt (ti+g) u-Rat.divInt ti u):=by
 rw[qAE,qAE,qAE,qAE,qAE,qBm,qBm,qAl,qAl]
 have n1:(u:Rat)≠0:=fun z=>absurd (qBv.mp z) (qBu u0)
 have n2:(p:Rat)≠0:=fun z=>absurd (qBv.mp z) (qBu p0)
 grind
theorem P4 {v y t u p:Int}(u0:0<u) (p0:0<p):Rat.divInt v (u*p)-Rat.divInt y p*Rat.divInt t u=Rat.divInt (v-y*t) (u*p):=by
 rw[qAE,qAE,qAE,qAE,qBg,qAl,qAl]
 have n1:(u:Rat)≠0:=fun z=>absurd (qBv.mp z) (qBu u0)
 have n2:(p:Rat)≠0:=fun z=>absurd (qBv.mp z) (qBu p0)
 grind
theorem Im {ms:List Int}(h:0<ms.length):atI (ms.map D.int) (-1)=some (.int (cell ms ((ms.length-1:Nat):Int))):=by
 rw[<-EW (ms:=ms) (i:=((ms.length-1:Nat):Int)) (ms.length-1) rfl ()]
 unfold atI ixN
 rw[qAa,if_neg (),if_pos (),if_pos (),if_pos ()]
 congr 1
 congr 1
 omega
theorem SW {ts:List Rat}{i:Int}(j:Nat) (e:i=(j:Int)) (h:j<ts.length):atI (ts.map qd) i=some (qd (T ts j)):=by
 subst e
 rw[CH.atI_nat (by rw[qAa];exact h),qAh,qAb h,B8 h]
 rfl
theorem Jl {k n:Nat}{a b c d:Int}{p q:Rat}(h:Wq k a b p) (g:Wq n c d q) (e:a*d=c*b):p=q:=by
 have l1:=(h.le_iff g).mp ()
 have l2:=(g.le_iff h).mp ()
 grind
theorem Kt {cs ds:Cs}{m k:Rat}(o:Ord cs) (q:Ord ds) (h:∀t,0<=t->val cs m t<=val ds k t):m<=k:=by
 have n1:=o.ne
 have n2:=q.ne
 have a0:=KN o (show cs.length-1<cs.length from ())
 have b0:=KN q (show ds.length-1<ds.length from ())
 refine O5 (a:=tt cs (cs.length-1)+tt ds (ds.length-1)) (f0:=vv cs (cs.length-1)+m*tt ds (ds.length-1)) (g0:=vv ds (ds.length-1)+k*tt cs (cs.length-1)) fun x hx=>?_
 have h1:=h x ⋯
 rw[Eo n1 ⋯,Eo n2 ⋯] at h1
 grind
def crP (p:Cq):D:=crv p.1 p.2
def wD (w:Nat×Nat):D:=.tup [.int w.1,.int w.2]
def lvD (A:Nat->Nat->Cq)(k:Nat)(w:Nat×Nat):D:=.lst ((List.range (w.2-w.1+1)).map fun i=>crP (A k (w.1+i+1)))
def lvL (A:Nat->Nat->Cq)(k:Nat)(w:Nat×Nat):List D:=(List.range (w.2-w.1+1)).map fun i=>crP (A k (w.1+i+1))
theorem Ts (q:Rat):Pl (qd q):=.tup fun x hx=>by
 rcases qAk.mp hx with rfl|hx
 .exact .int _
 .rw[qAw.mp hx];exact .int _
theorem Ud (p:Cq):Pl (crP p):=by
 refine .tup fun x hx=>?_
 rcases qAk.mp hx with rfl|hx
 .refine .tup fun z hz=>?_
  obtain⟨c,_,rfl⟩:=qAL.mp hz
  refine .tup fun u hu=>?_
  rcases qAk.mp hu with rfl|hu
  .exact Ts _
  .rw[qAw.mp hu];exact Ts _
 .rw[qAw.mp hx];exact Ts _
theorem P0 (p:Cq):Bf 4 (crP p)=true:=by
 show((p.1.map cd).all (Bf 2)&&(Bf 3 (qd p.2)&&true))=true
 rw[Rn]
 rfl
theorem Ra {rows:List (List D)}(h:0<rows.length) (g:∀r∈rows,0<r.length/\r.length<=1000):∃x r rs,rows=(x::r)::rs/\r.length<=1000:=by
 cases rows with
 |nil=>cases h
 |cons a rs =>
  have ga:=g a (qAO ..)
  cases a with
  |nil=>exact absurd ga.1 ∅
  |cons x r=>exact#[x,r,rs,rfl,qAG (qBJ _) ga.2]
def isW:D->Bool
 |.int _=>true
 |_=>false
def Ni:D->Bool
 |.ty _=>false
 |.ref _=>false
 |_=>true
theorem MA {x:D}(h:isW x=true):∃a:Int,x=.int a:=by cases x<;>first|exact#[_,rfl]|cases h
def wOk (h:Int)(x:D):Prop:=∃a b:Int,x=.tup [.int a,.int b]/\0<=a/\a<=b/\b<h
def wP (x:D):Prop:=∃y z:D,x=.tup [y,z]/\Ni y=true/\Ni z=true
theorem Sg {l i:Nat}{k:Int}(e:k=(i:Int)) (h:i<l):ixN l k=some i:=by
 subst e
 unfold ixN
 rw[if_pos (),if_pos ()]
 simp
theorem okS {t:Tab}{S H n:Nat}(h:t.Ok S H) (hn:n<S):t.Ok (n+1) H:=#[h.g0,h.g6,fun s hs=>h.r s (),fun s hs=>h.a s ()]
theorem Mi (hs:List Cq):hs.map crP=(List.range hs.length).map fun h=>crP (hs.getD h ([],0)):=by
 refine qBW fun i=>?_
 by_cases c:i<hs.length
 .rw[qAh,qAh,qA6 c,qAb c];show some (crP hs[i])=some (crP (hs.getD i ([],0)));rw[qAg,qAb c];rfl
 .rw[qAM.mpr (by rw[qAa];omega),qAM.mpr (by rw[qAa,qAt];omega)]
theorem Ir {f:Nat->D}{m:Nat}{i:Int}(k:Nat) (e:i=(k:Int)) (h:k<m):atI ((List.range m).map f) i=some (f k):=by
 subst e
 exact atI_nat (by rw[qAh,qA6 h];rfl)
def OH (f:Nat->Cq)(a:Nat)(v:Cq):Nat->Cq:=fun x=>if x=a then v else f x
theorem G2 {f:Nat->Cq}{a:Nat}{v:Cq}:OH f a v a=v:=if_pos rfl
theorem Fy {f:Nat->Cq}{a x:Nat}{v:Cq}(h:x≠a):OH f a v x=f x:=if_neg h
theorem LI {f g:Nat->D}{m k:Nat}{x:D}(h:k<m) (e:f k=x) (n:∀i,i≠k->f i=g i):((List.range m).map g).set k x=(List.range m).map f:=by
 refine qBW fun i=>?_
 rw[qCr,qAa,qAt,qAh,qAh]
 by_cases c:k=i
 .subst c
  rw[if_pos rfl,if_pos h,qA6 h,<-e];rfl
 .rw[if_neg c]
  by_cases d:i<m
  .rw[qA6 d];show some (g i)=some (f i);rw[n i (fun z=>c z.symm)]
  .rw[qAM.mpr (by rw[qAt];omega)];rfl
theorem J6 {f:Nat->D}{n:Nat}{x:D}(e:f n=x):(List.range n).map f++[x]=(List.range (n+1)).map f:=by rw[List.range_succ,qAB,<-e];rfl
def KW (cs:Cs)(m:Rat):Prop:=Crv cs m/\cs.length<=3/\∃u p:Int,Gr u p cs m
theorem N9 {sl:List Int}{j:Nat}(h:j<sl.length):cell sl j∈sl:=by
 unfold cell
 rw[qA8,qAg,qAb h]
 exact qA3 h
theorem PX {a b p:Int}(p0:0<p) (h:Rat.divInt a p=Rat.divInt b p):a=b:=by
 have p2:p≠0:=()
 have p1:(p:Rat)≠0:=fun z=>p2 (qBA.mp z)
 rw[qAE,qAE] at h
 have:(a:Rat)=(b:Rat):=⋯
 exact qBA.mp this
structure R6 where
 a:Int
 b:Int
 c:Int
 d:Int
 e:Int
 f:Int
def S3 (r:R6):D:=.tup [tp r.a r.b,tp r.c r.d,tp r.e r.f]
theorem IP {rs:List R6}{i:Int}(j:Nat) (e:i=(j:Int)) (h:j<rs.length):atI (rs.map S3) i=some (.tup [tp (rs[j]).a (rs[j]).b,tp (rs[j]).c (rs[j]).d,tp (rs[j]).e (rs[j]).f]):=by
 subst e
 rw[CH.atI_nat (by rw[qAa];exact h),qAh,qAb h]
 rfl
theorem TJ {ts:List Rat}(h:0<ts.length):atI (ts.map qd) (-1)=some (qd (T ts (ts.length-1))):=by
 rw[<-SW (ts:=ts) (i:=((ts.length-1:Nat):Int)) (ts.length-1) rfl ()]
 unfold atI ixN
 rw[qAa,if_neg (),if_pos (),if_pos (),if_pos ()]
 congr 1
 congr 1
 omega
theorem _root_.CH.Tm1.last {cs:Cs}{ts:List Rat}{m:Rat}(o:Ord cs) (t:Tm1 cs ts):sat cs m (T ts (ts.length-1))=m:=by
 have n:=o.ne
 obtain⟨j,hj,ej⟩:=t.a (cs.length-1) ()
 have:=C9 t.up (i:=j) (j:=ts.length-1) () (by have:=t.ne;omega)
 rw[ej] at this
 exact JV n this
def RO (ds:Cs)(k:Rat)(C:Cs)(M:Rat)(L:Cs)(K:Rat)(r:R6)(t:Rat):Prop:=Wq 16806 r.a r.b (val ds k t)/\Wq 16806 r.c r.d (val C M t)/\Wq 33613 r.e r.f (val L K t)
def KL (cs:Cs)(m:Rat):Prop:=Ord cs/\SzK 2400 cs m/\cs.length<=6000
theorem Q6 {ts:List Rat}(h:Asc ts):ts.Nodup:=List.Pairwise.imp (fun {a b}(l:a<b) e=>by rw[e] at l;exact qCK l) h
theorem Pb (ts:List Rat)(f:Rat->Rat):(itp ts f).map cd=ts.map fun t=>D.tup [qd t,qd (f t)]:=by unfold itp;rw[qBt];rfl
theorem _root_.CH.IsL.cong {h g:Rat->Rat}{t v:Rat}(a:IsL h t v) (e:∀s,0<=s->s<=t->h s=g s):IsL g t v:=by
 refine#[a.1,?_,fun s s0 s1=>by rw[<-e s s0 s1];exact a.2.2 s s0 s1]
 rcases a.2.1 with z|⟨u,u0,u1,z⟩
 .exact .inl z
 .exact .inr #[u,u0,u1,by rw[<-e u u0 u1];exact z]
def cpW (w:Nat×Nat)(n:Nat):Nat:=max w.1 (min n (w.2+1))
theorem JJ {α:Type}{f:α->D}{xs:List α}{x:α}{i:Int}(k:Nat) (e:i=(k:Int)) (h:xs[k]? = some x):atI (xs.map f) i=some (f x):=by
 subst e
 exact atI_nat (by rw[qAh,h];rfl)
theorem Vm {g:Int}{b:Nat}{s:Rat}(h:Gd (g*g) b s):Vz g 0 b s:=by
 obtain⟨Z,e,z⟩:=h
 exact#[Z,1,∅,by rw[qBI];exact e,z,∅]
theorem Vn {b:Nat}{s:Rat}(h:Gd 60 b s):Tz 60 0 b s:=by
 obtain⟨Z,e,z⟩:=h
 exact#[Z,1,∅,by rw[qBI];exact e,z,∅]
theorem KW.base {cs:Cs}{m:Rat}(h:KW cs m):Lns 60 47 0 82 cs m/\(∀i,i<cs.length->Tz 60 0 32 (tt cs i))/\cs.length<=3:=by
 obtain⟨k,l,u,p,g⟩:=h
 refine#[fun i hi=>?_,fun i hi=>?_,l]
 .have:=T7 g #[i,hi,rfl,.inl rfl]
  exact#[this.1,Vm (g:=60) this.2]
 .obtain⟨c,ec,zc⟩:=Pt g.u0
  exact Vn (Qc (k:=6) c (g.tm i hi) ec zc)
theorem KW.rw {cs:Cs}{m:Rat}(h:KW cs m){k:Nat}(hk:k<3):RW 60 (tG.R 0 k) (cs,m):=by
 obtain⟨b1,b2,b3⟩:=h.base
 rcases(show k=0\/k=1\/k=2 from ()) with rfl|rfl|rfl<;>exact#[#[h.1,b1,fun z #[i,hi,e,_]=>e ▸ b2 _ hi,b2],b3]
theorem KW.aw {cs:Cs}{m:Rat}(h:KW cs m){k:Nat}(hk:k<3):AW 60 (tG.A k 0) (cs,m):=by
 obtain⟨b1,b2,b3⟩:=h.base
 rcases(show k=0\/k=1\/k=2 from ()) with rfl|rfl|rfl<;>exact#[#[h.1,b1,fun z #[i,hi,e,_]=>e ▸ b2 _ hi],b3]
theorem RJ {v s:Int}{b n:Nat}(hs:s.natAbs<2^b) (hv:v.natAbs<2^n):Lns 1 b 0 n [(0,(v:Rat))] (s:Rat):=fun i hi=>by
 have:i=0:=by(have:i<1:=hi;omega)
 subst this
 rw[AE (by show ¬1<1;decide)]
 refine#[#[s,by show(s:Rat)*1=_;grind,hs],v,1,∅,?_,hv,∅]
 show((v:Rat)-(s:Rat)*0)*1=_
 grind
theorem O8 {v s:Int}(v0:0<=v) (s0:0<=s):Crv [(0,(v:Rat))] (s:Rat):=#[Nat.one_pos,rfl,qBR.mpr v0,qBR.mpr s0,fun k hk=>absurd hk (by show ¬k+1<1;omega),fun k hk=>absurd hk (by show ¬k+1<1;omega),fun k hk=>absurd hk (by show ¬k+1<1;omega)]
theorem PV {v s:Int}{z:Zn}(v0:0<=v) (s0:0<=s) (hs:s.natAbs<2^z.b) (hv:v.natAbs<2^z.n) (hk:z.k=0) (hN:1<=z.N):RW 1 z ([(0,(v:Rat))],(s:Rat))/\AW 1 z ([(0,(v:Rat))],(s:Rat)):=by
 have no:∀{i:Nat},¬i+1 < [((0:Rat),(v:Rat))].length:=fun {i} h=>absurd h (by show ¬i+1<1;omega)
 have l:Lns 1 z.b z.k z.n [(0,(v:Rat))] (s:Rat):=by rw[hk];exact RJ hs hv
 refine#[#[#[O8 v0 s0,l,fun y #[i,hi,_]=>absurd hi no,fun i hi=>?_],hN],#[O8 v0 s0,l,fun y #[i,hi,_]=>absurd hi no],hN]
 have:i=0:=by(have:i<1:=hi;omega)
 subst this
 exact#[0,1,∅,by show(0:Rat)*_=_;rw[qBC];rfl,qBn _,qBQ]
structure In (t:Tab)(U NN:Nat->Nat->Nat)(hs cs:List Cq)(ws:List (Nat×Nat)):Prop where
 e:ws.length=cs.length
 w:∀w∈ws,w.1<=w.2/\w.2<hs.length
 ok:t.Ok cs.length hs.length
 lim:Lim t cs.length hs.length
 lw:Lw t U NN cs.length hs.length
 h:∀k x,hs[k]? = some x->RW t.g (t.R 0 k) x
 c:∀k x,cs[k]? = some x->AW t.g (t.A k 0) x
 c12:cs.length<=12
 h12:hs.length<=12
structure In0 (t:Tab)(U NN:Nat->Nat->Nat)(hs cs:List Cq):Prop where
 ok:t.Ok cs.length hs.length
 lim:Lim t cs.length hs.length
 lw:Lw t U NN cs.length hs.length
 h:∀k x,hs[k]? = some x->RW t.g (t.R 0 k) x
 c:∀k x,cs[k]? = some x->AW t.g (t.A k 0) x
 c12:cs.length<=12
 h12:1<=hs.length/\hs.length<=12
theorem _root_.CH.Tab.Ok.mono {t:Tab}{S H S' H':Nat}(h:t.Ok S H) (a:S'<=S) (b:H'<=H):t.Ok S' H':=#[h.g0,h.g6,fun s hs j hj=>h.r s () j (),fun s hs j hj=>h.a s () j ()]
theorem NM {t:Tab}{S H S' H':Nat}(h:Lim t S H) (a:S'<=S) (b:H'<=H):Lim t S' H':=fun s hs j hj=>h s () j ()
theorem _root_.CH.Lw.mono {t:Tab}{U NN:Nat->Nat->Nat}{S H S' H':Nat}(h:Lw t U NN S H) (a:S'<=S) (b:H'<=H):Lw t U NN S' H':=#[fun j hj=>h.u0 j (),fun s hs j hj=>h.u s () j (),fun s hs j hj=>h.l s () j ()]
theorem Th {hs cs:List Cq}(h1:∀x∈hs,KW x.1 x.2) (h2:∀x∈cs,KW x.1 x.2) (a:1<=hs.length/\hs.length<=3) (b:cs.length<=3):In0 tG uG nG hs cs :=
 #[T2.mono b a.2,NM Sy b a.2,Tu.mono b a.2,fun k x hx=>(h1 x (qAo hx)).rw (by have:=(qAf.mp hx).1;omega),fun k x hx=>(h2 x (qAo hx)).aw (by have:=(qAf.mp hx).1;omega),(),a.1,()]
def FL (m:Int)(o:Bool)(x:Cq):Prop:=∃v s:Int,x=([(0,(v:Rat))],(s:Rat))/\0<=v/\v<=1000000/\(o=false->v=0)/\0<=s/\s<=6*m
def pk (a b c x:Int):Int:=if x=0 then a else if x=1 then b else c
theorem at3 {a b c x:Int}(h:0<=x/\x<3):atI [D.int a,D.int b,D.int c] x=some (.int (pk a b c x)):=by
 rcases(show x=0\/x=1\/x=2 from ()) with rfl|rfl|rfl<;>rfl
theorem VJ {x:Int}:1<=pk 12 1 4 x/\pk 12 1 4 x<=12/\1<=pk 1 12 4 x/\pk 1 12 4 x<=12:=by
 unfold pk
 by_cases a:x=0
 .simp only[if_pos a];decide
 .by_cases b:x=1
  .simp only[if_neg a,if_pos b];decide
  .simp only[if_neg a,if_neg b];decide
theorem SU {z:Zn}{m:Int}{o:Bool}{x:Cq}(h:FL m o x) (m0:0<=m) (hb:(6*m).natAbs<2^z.b) (hn:o=false\/1000000<2^z.n) (hk:z.k=0) (hN:1<=z.N):RW 1 z x/\AW 1 z x:=by
 obtain⟨v,s,rfl,v0,v1,ve,s0,s1⟩:=h
 refine PV v0 s0 () ?_ hk hN
 rcases hn with e|e
 .rw[ve e];exact qBn _
 .omega
theorem QE {hs cs:List Cq}{m:Int}{t:Tab}{U NN:Nat->Nat->Nat}{S H:Nat}(m0:0<=m) (h1:∀x∈hs,FL m false x) (h2:∀x∈cs,FL 1 true x) (g:t.g=1) (ok:t.Ok S H) (li:Lim t S H) (lw:Lw t U NN S H) (a:hs.length=H) (b:cs.length=S) (c1:1<=H/\H<=12) (c2:S<=12)
 (hr:∀k,k<H->(6*m).natAbs<2^(t.R 0 k).b/\(t.R 0 k).k=0/\1<=(t.R 0 k).N) (ha:∀k,k<S->(6:Nat)<2^(t.A k 0).b/\1000000<2^(t.A k 0).n/\(t.A k 0).k=0/\1<=(t.A k 0).N):In0 t U NN hs cs:=by
 subst a b
 refine#[ok,li,lw,fun k x hx=>?_,fun k x hx=>?_,c2,c1]
 .rw[g]
  obtain⟨p1,p2,p3⟩:=hr k (qAf.mp hx).1
  exact(SU (h1 x (qAo hx)) m0 p1 (.inl rfl) p2 p3).1
 .rw[g]
  obtain⟨p1,p2,p3,p4⟩:=ha k (qAf.mp hx).1
  exact(SU (h2 x (qAo hx)) ∅ p1 (.inr p2) p3 p4).2
theorem VA {x:Int}(hx:0<=x/\x<3):1<=pk 1 12 4 x:=by
 rcases(show x=0\/x=1\/x=2 from ()) with rfl|rfl|rfl<;>decide
theorem Tn {hs cs:List Cq}{x:Int}(hx:0<=x/\x<3) (h1:∀y∈hs,FL (pk 1 12 4 x) false y) (h2:∀y∈cs,FL 1 true y) (a:(hs.length:Int)=pk 12 1 4 x) (b:(cs.length:Int)=pk 1 12 4 x):∃t U NN,In0 t U NN hs cs:=by
 rcases(show x=0\/x=1\/x=2 from ()) with rfl|rfl|rfl
 .exact#[tP,uP,nP,QE ∅ h1 h2 rfl T6 Sb Uk (by have:pk 12 1 4 0=12:=rfl;omega) (by have:pk 1 12 4 0=1:=rfl;omega) ∅ ∅ (by decide +kernel) (by decide +kernel)]
 .exact#[tQ,uQ,nQ,QE ∅ h1 h2 rfl Uw Si Tx (by have:pk 12 1 4 1=1:=rfl;omega) (by have:pk 1 12 4 1=12:=rfl;omega) ∅ ∅ (by decide +kernel) (by decide +kernel)]
 .exact#[tO,uO,nO,QE ∅ h1 h2 rfl T5 Sw T1 (by have:pk 12 1 4 2=4:=rfl;omega) (by have:pk 1 12 4 2=4:=rfl;omega) ∅ ∅ (by decide +kernel) (by decide +kernel)]
inductive Gp (ss:List S)(R:S->Prop)(U_:Str->Prop):Prop
 |mk (a:Int)(_:ss=[.d (.int a)])(_:R (.d (.bl true)))
inductive G3 (ss:List S)(R:S->Prop)(U_:Str->Prop):Prop
 |mk (a b:Int)(_:ss=[.d (.int a),.d (.int b)])(_:R (.d (.int (g a b))))
inductive Kp (ss:List S)(R:S->Prop)(U_:Str->Prop):Prop
 |mk (a b:Int)(_:ss=[.d (.int a),.d (.int b)])(_:b≠0)(_:a.natAbs<2^13000)(_:b.natAbs<2^13000)(_:R (.d (qd (Rat.divInt a b))))
inductive Mr (ss:List S)(R:S->Prop)(U_:Str->Prop):Prop
 |mk (p q:Rat)(k l:Nat)(_:ss=[.d (qd p),.d (qd q)])(_:Sz k p)(_:Sz l q)(_:k+l+1<=13000)(_:R (.d (qd (p+q))))
inductive Ky (ss:List S)(R:S->Prop)(U_:Str->Prop):Prop
 |mk (p q:Rat)(k l:Nat)(_:ss=[.d (qd p),.d (qd q)])(_:Sz k p)(_:Sz l q)(_:k+l+1<=13000)(_:R (.d (qd (p-q))))
inductive Km (ss:List S)(R:S->Prop)(U_:Str->Prop):Prop
 |mk (p q:Rat)(k l:Nat)(_:ss=[.d (qd p),.d (qd q)])(_:Sz k p)(_:Sz l q)(_:k+l<=13000)(_:R (.d (qd (p*q))))
inductive M5 (ss:List S)(R:S->Prop)(U_:Str->Prop):Prop
 |mk (p q:Rat)(k l:Nat)(_:ss=[.d (qd p),.d (qd q)])(_:Sz k p)(_:Sz l q)(_:k+l<=13000)(_:q≠0)(_:R (.d (qd (p/q))))
inductive Ka (ss:List S)(R:S->Prop)(U_:Str->Prop):Prop
 |mk (p q:Rat)(k l:Nat)(_:ss=[.d (qd p),.d (qd q)])(_:Sz k p)(_:Sz l q)(_:k+l<=30000)(_:R (.d (.bl (decide (p<q)))))
inductive G6 (ss:List S)(R:S->Prop)(U_:Str->Prop):Prop
 |mk (p q:Rat)(k l:Nat)(_:ss=[.d (qd p),.d (qd q)])(_:Sz k p)(_:Sz l q)(_:k+l<=30000)(_:R (.d (qd (if p<q then q else p))))
inductive KA (ss:List S)(R:S->Prop)(U:Str->Prop):Prop
 |mk (x:S)(cs:Cs)(m:Rat)(_:ss=[x,.d (qd m)])(_:(x=.r (cs.map cd)\/x=.d (.lst (cs.map cd))))(_:SzD cs m)(_:(Ord cs/\0<=m->R (.d (crv (kp cs m (cs.length-1)) m))))(_:(¬(Ord cs/\0<=m)->U "NoCurve"))
inductive Ea (ss:List S)(R:S->Prop)(U:Str->Prop):Prop
 |mk (x:S)(cs:Cs)(_:ss=[x])(_:(x=.r (cs.map cd)\/x=.d (.lst (cs.map cd))))(_:cs.length<=1000000)(_:SzC 6400 cs)(_:(Bgn cs->R (.d .non)))(_:(¬Bgn cs->U "NoCurve"))
inductive EV (ss:List S)(R:S->Prop)(U:Str->Prop):Prop
 |mk (x:S)(cs:Cs)(_:ss=[x])(_:(x=.r (cs.map cd)\/x=.d (.lst (cs.map cd))))(_:0<cs.length)(_:cs.length<=1000000)(_:SzC 6400 cs)(_:(Ris cs cs.length->R (.d .non)))(_:(¬Ris cs cs.length->U "NoCurve"))
inductive F4 (ss:List S)(R:S->Prop)(U:Str->Prop):Prop
 |mk (cs:Cs)(m t:Rat)(a b c n:Nat)(_:ss=[.d (crv cs m),.d (qd t)])(_:Ord cs)(_:LS a b c cs m)(_:cs.length<=1000000)(_:a+b+c+1<=6000)(_:4*a+b+2<=13000)(_:n<=6000)(_:2*a+2*b+c+n+3<=13000)(_:Sz n t)(_:(0<=t->R (.d (qd (val cs m t)))))(_:(¬0<=t->U "NoTime"))
inductive Gw (ss:List S)(R:S->Prop)(U:Str->Prop):Prop
 |mk (cs:Cs)(m t:Rat)(n:Nat)(_:ss=[.d (crv cs m),.d (qd t)])(_:0<cs.length)(_:cs.length<=1000000)(_:tt cs 0=0)(_:Up cs)(_:n<=6000)(_:SzC n cs)(_:Sz n t)(_:(0<=t->R (.d (.int (plc cs t cs.length)))))(_:(¬0<=t->U "NoTime"))
inductive ET (ss:List S)(R:S->Prop)(U:Str->Prop):Prop
 |mk (t:Rat)(n:Nat)(_:ss=[.d (qd t)])(_:n<=6000)(_:Sz n t)(_:(0<=t->R (.d .non)))(_:(¬0<=t->U "NoTime"))
inductive C5 (ss:List S)(R:S->Prop)(U_:Str->Prop):Prop
 |mk (cs:Cs)(m:Rat)(k:Nat)(_:ss=[.d (crv cs m),.d (.int k)])(_:k<cs.length)(_:cs.length<=1000000)(_:Up cs)(_:SzC 6400 cs)(_:Df cs)(_:R (.d (qd (slp cs m k))))
inductive Dy (ss:List S)(R:S->Prop)(U_:Str->Prop):Prop
 |mk (a b c d:Rat)(n e f:Nat)(_:ss=[.d (.tup [qd a,qd b]),.d (.tup [qd c,qd d])])(_:n<=6400)(_:Sz n a)(_:Sz n b)(_:Sz n c)(_:Sz n d)(_:Sz e (c-a))(_:Sz f (d-b))(_:e+f<=13000)(_:c-a≠0)(_:R (.d (qd ((d-b)/(c-a)))))
inductive Dx (ss:List S)(R:S->Prop)(U_:Str->Prop):Prop
 |mk (x:S)(cs:Cs)(m:Rat)(_:ss=[x,.d (qd m)])(_:(x=.r (cs.map cd)\/x=.d (.lst (cs.map cd))))(_:0<cs.length)(_:cs.length<=1000000)(_:SzC 6400 cs)(_:Df cs)(_:Up cs)(_:R (.l ((NA cs m).map qd)))
inductive GY (ss:List S)(R:S->Prop)(U_:Str->Prop):Prop
 |mk (a b s h:Rat)(n p l k:Nat)(_:ss=[.d (.tup [qd a,qd b]),.d (qd s),.d (qd h)])(_:Sz n a)(_:Sz p b)(_:Sz l h)(_:Sz k s)(_:s≠0)(_:n+p+l+k+2<=13000)(_:R (.d (qd (a+(h-b)/s))))
def Eb:SpL:=fun a dom p ss R _=>∃(x:S)(xs:List D)(n:Nat),ss=[x,.d (.ref a)]/\(x=.d (.tup xs)\/x=.r xs\/x=.d (.lst xs))/\xs.length<=1000000/\n<=xs.length/\(∀i x,xs[i]? = some x->dom x/\p x=decide (i<n))/\R (.d (.int n))
inductive MF (ss:List S)(R:S->Prop)(U_:Str->Prop):Prop
 |mk (cs:Cs)(m:Rat)(ds:Cs)(k:Rat)(a b c aa bb cc A:Nat)(_:ss=[.d (crv cs m),.d (crv ds k)])(_:Ih cs m)(_:Ih ds k)(_:LS a b c cs m)(_:LS aa bb cc ds k)(_:a<=A)(_:aa<=A)(_:cs.length+ds.length<=4000)(_:A+b+bb+c+cc+3<=6000)(_:4*A+b+bb+3<=13000)(_:3*A+2*(b+bb)+c+cc+3<=13000)(_:(∀x y,0<=x->x<=y->gap cs m ds k x<=gap cs m ds k y))(_:0<=gap cs m ds k 0)(_:∀(C:Cs)(M:Rat),Crv C M->(∀t,0<=t->val C M t=gap cs m ds k t)->M=m-k->LS A (b+bb+1) (c+cc+1) C M->C.length<=cs.length+ds.length->R (.d (crv C M)))
inductive Ei (ss:List S)(R:S->Prop)(U_:Str->Prop):Prop
 |mk (cs:Cs)(m:Rat)(ds:Cs)(k:Rat)(a b c:Nat)(_:ss=[.d (crv cs m),.d (crv ds k)])(_:Ord cs)(_:Ord ds)(_:cs.length<=4000)(_:ds.length<=4000)(_:LS a b c cs m)(_:LS a b c ds k)(_:a+b+c+1<=6000)(_:4*a+b+2<=13000)(_:3*a+2*b+c+3<=13000)(_:∀ts:List Rat,Tms cs ds ts->ts.length<=cs.length+ds.length->R (.l (ts.map (rw3 cs m ds k))))
inductive DL (ss:List S)(R:S->Prop)(U_:Str->Prop):Prop
 |mk (cs:Cs)(m:Rat)(ds:Cs)(k:Rat)(n:Nat)(_:ss=[.d (crv cs m),.d (crv ds k)])(_:Ord cs)(_:Ord ds)(_:cs.length<=4000)(_:ds.length<=4000)(_:n<=6000)(_:SzC n cs)(_:SzC n ds)(_:∀ts:List Rat,Tms cs ds ts->ts.length<=cs.length+ds.length->R (.d (.lst (ts.map qd))))
inductive E7 (ss:List S)(R:S->Prop)(U_:Str->Prop):Prop
 |mk (x:S)(cs:Cs)(m:Rat)(ds:Cs)(k:Rat)(ts:List Rat)(v:Nat)(_:ss=[x])(_:(x=.r (ts.map (rw3 cs m ds k))\/x=.d (.lst (ts.map (rw3 cs m ds k)))))(_:ts.length<=6000)(_:v<=6400)(_:(∀i,i<ts.length->Sz v (val cs m (T ts i))/\Sz v (val ds k (T ts i))))(_:R (.l ((gcs cs m ds k ts).map cd)))
inductive Mq (ss:List S)(R:S->Prop)(U_:Str->Prop):Prop
 |mk (cs:Cs)(m:Rat)(ds:Cs)(k:Rat)(a b c aq bq cq A:Nat)(_:ss=[.d (crv cs m),.d (crv ds k)])(_:Ih cs m)(_:Ih ds k)(_:LS a b c cs m)(_:LS aq bq cq ds k)(_:a<=A)(_:aq<=A)(_:cs.length+ds.length<=1400)(_:A+b+c+1<=1800)(_:A+bq+cq+1<=1800)(_:2*(b+bq+c+cq)+A+6<=3000)(_:∀(C:Cs)(M:Rat),Crv C M->0<=M->(∀t,0<=t->IsL (gap cs m ds k) t (val C M t))->LS (2*(b+bq+c+cq)+A+6) (b+bq+1) (b+bq+c+cq+A+3) C M->C.length<=2*(cs.length+ds.length)->R (.d (crv C M)))
inductive Ee (ss:List S)(R:S->Prop)(U_:Str->Prop):Prop
 |mk (gs:Cs)(i:Nat)(l B:Rat)(_:ss=[.r (gs.map cd),.d (.int i),.d (qd l),.d (qd B)])(_:i<gs.length)(_:Sz 3000 l)(_:Sz 3000 B)(_:SzC 3000 gs)(_:R (.d (.bl (if i+1<gs.length then decide (B<vv gs (i+1)) else decide (0<l)))))
inductive Iy (ss:List S)(R:S->Prop)(U_:Str->Prop):Prop
 |mk (cs:Cs)(m:Rat)(ds:Cs)(k:Rat)(a b c aq bq cq A:Nat)(_:ss=[.d (crv ds k),.d (crv cs m)])(_:Ih cs m)(_:Ih ds k)(_:LS a b c cs m)(_:LS aq bq cq ds k)(_:a<=A)(_:aq<=A)(_:cs.length<=700)(_:ds.length<=700)(_:b+bq+c+cq<=700)(_:A<=600)(_:b<=100)(_:bq<=100)(_:∀(L:Cs)(K:Rat)(C:Cs)(M:Rat),Crv L K->0<=K->(∀t,0<=t->IsL (gap cs m ds k) t (val L K t))->Crv C M->0<=M->M=m-K->(∀t,0<=t->val C M t=val cs m t-val L K t)->LS (2*(b+bq+c+cq)+A+6) (b+(b+bq+1)+1) (c+(b+bq+c+cq+A+3)+1) C M->C.length<=cs.length+L.length->R (.d (crv C M)))
inductive IC (ss:List S)(R:S->Prop)(U_:Str->Prop):Prop
 |mk (cs:Cs)(m:Rat)(ds:Cs)(k:Rat)(a b c aq bq cq A:Nat)(_:ss=[.d (crv ds k),.d (crv cs m)])(_:Ih cs m)(_:Ih ds k)(_:LS a b c cs m)(_:LS aq bq cq ds k)(_:a<=A)(_:aq<=A)(_:cs.length+ds.length<=1400)(_:A+b+c+1<=1800)(_:A+bq+cq+1<=1800)(_:2*(b+bq+c+cq)+A+6<=3000)(_:∀(C:Cs)(M:Rat),Crv C M->0<=M->(∀t,0<=t->IsL (gap cs m ds k) t (val C M t))->LS (2*(b+bq+c+cq)+A+6) (b+bq+1) (b+bq+c+cq+A+3) C M->C.length<=2*(cs.length+ds.length)->R (.d (crv C M)))
inductive Pd (ss:List S)(R:S->Prop)(U_:Str->Prop):Prop
 |mk (t:Tab)(hs cs:List Cq)(ws:List (Nat×Nat))(_:ss=[.r (hs.map crP),.r (cs.map crP),.r (ws.map wD)])(_:ws.length=cs.length)(_:(∀w∈ws,w.1<=w.2/\w.2<hs.length))(_:t.Ok cs.length hs.length)(_:Lim t cs.length hs.length)(_:(∀k x,hs[k]? = some x->RW t.g (t.R 0 k) x))(_:(∀k x,cs[k]? = some x->AW t.g (t.A k 0) x))(_:cs.length<=12)(_:hs.length<=12)(_:∀r a:Nat->Nat->Cq,Run t hs cs ws cs.length r a->R (.l ((List.range cs.length).map fun k=>lvD a k (ws.getD k (0,0)))))
inductive ES (ss:List S)(R:S->Prop)(U:Str->Prop):Prop
 |mk (s:S)(ws:List D)(n h:Int)(_:ss=[s,.d (.int n),.d (.int h)])(_:(s=.r ws\/s=.d (.lst ws)))(_:(∀x∈ws,wP x))(_:(((ws.length:Int)=n/\∀x∈ws,wOk h x)->R (.d .non)))(_:(¬((ws.length:Int)=n/\∀x∈ws,wOk h x)->U "NoWay"))
inductive DB (ss:List S)(R:S->Prop)(U_:Str->Prop):Prop
 |mk (ns:List Int)(k:Int)(_:ss=[.r (ns.map D.int),.d (.int k)])(_:0<=k)(_:k<=1000)(_:R (.d (.int (cl ns k))))
inductive Gx (ss:List S)(R:S->Prop)(U_:Str->Prop):Prop
 |mk (a b:Int)(_:ss=[.d (.int a),.d (.int b)])(_:0<b)(_:a.natAbs<2^13000)(_:b.natAbs<2^13000)(_:R (.d (qd (Rat.divInt a b))))
inductive Gn (ss:List S)(R:S->Prop)(U_:Str->Prop):Prop
 |mk (a b c d:Int)(_:ss=[.d (tp a b),.d (tp c d)])(_:L4 400000 a b c d)(_:R (.d (tp (a*d+c*b) (b*d))))
inductive Fx (ss:List S)(R:S->Prop)(U_:Str->Prop):Prop
 |mk (a b c d:Int)(_:ss=[.d (tp a b),.d (tp c d)])(_:L4 400000 a b c d)(_:R (.d (tp (a*d-c*b) (b*d))))
inductive E5 (ss:List S)(R:S->Prop)(U_:Str->Prop):Prop
 |mk (a b c d:Int)(_:ss=[.d (tp a b),.d (tp c d)])(_:L4 400000 a b c d)(_:R (.d (.bl (decide (a*d<=c*b)))))
inductive EF (ss:List S)(R:S->Prop)(U_:Str->Prop):Prop
 |mk (cs:Cs)(m:Rat)(k:Int)(j n:Nat)(_:ss=[.d (crv cs m),.d (.int k)])(_:k=(j:Int))(_:j<cs.length)(_:Up cs)(_:n<=50000)(_:SzC n cs)(_:Sz n m)(_:∀A B:Int,Wq (4*n+2) A B (slp cs m j)->R (.d (tp A B)))
inductive G0 (ss:List S)(R:S->Prop)(U_:Str->Prop):Prop
 |mk (cs:Cs)(m t:Rat)(tn td:Int)(n k:Nat)(_:ss=[.d (crv cs m),.d (tp tn td)])(_:Ord cs)(_:cs.length<=1000000)(_:n+k<=50000)(_:SzC n cs)(_:Sz n m)(_:Wq k tn td t)(_:0<=t)(_:∀A B:Int,Wq (6*n+k+4) A B (val cs m t)->R (.d (tp A B)))
inductive EY (ss:List S)(R:S->Prop)(U_:Str->Prop):Prop
 |mk (q:Rat)(_:ss=[.d (qd q)])(_:Sz 13000 q)(_:R (.d (.bl true)))
inductive EN (ss:List S)(R:S->Prop)(U_:Str->Prop):Prop
 |mk (cs:Cs)(m:Rat)(_:ss=[.d (crv cs m)])(_:Crv cs m)(_:SzK 2400 cs m)(_:R (.d (.bl true)))
inductive Eg (ss:List S)(R:S->Prop)(U_:Str->Prop):Prop
 |mk (ms:List Int)(_:ss=[.r (ms.map D.int)])(_:ms.length<=8)(_:∀sl:List Int,sl.length=ms.length->(∀x∈sl,0<=x/\x<=1000000000)->R (.l (sl.map D.int)))
inductive EE (ss:List S)(R:S->Prop)(U_:Str->Prop):Prop
 |mk (c:Int)(ms:List Int)(st sh:Int)(_:ss=[.d (.int c),.r (ms.map D.int),.d (.int st),.d (.int sh)])(_:0<=c)(_:c<30)(_:0<ms.length)(_:ms.length<=3)(_:0<=st)(_:st<=1000000)(_:∀(cs:Cs)(m:Rat),KW cs m->R (.d (crv cs m)))
inductive Gz (ss:List S)(R:S->Prop)(U_:Str->Prop):Prop
 |mk (ns:List Int)(b z:Int)(_:ss=[.r (ns.map D.int),.d (.int b),.d (.int z)])(_:0<=b)(_:b<=100)(_:1<=z)(_:z<=8)(_:∀ms:List Int,(ms.length:Int)=z->R (.l (ms.map D.int)))
inductive EL (ss:List S)(R:S->Prop)(U_:Str->Prop):Prop
 |mk (fs:List (Cs×Rat))(n:Nat)(_:ss=[.d (.lst (fs.map cD))])(_:fs.length<=3)(_:n<=2400)(_:(∀f∈fs,Ord f.1/\f.1.length<=6000/\∀k,k<f.1.length->Sz n (tt f.1 k)))(_:∀ts:List Rat,TmA fs ts->ts.length<=18000->R (.l (ts.map qd)))
inductive E8 (ss:List S)(R:S->Prop)(U_:Str->Prop):Prop
 |mk (a b c d:Int)(_:ss=[.d (tp a b),.d (tp c d)])(_:L4 400000 a b c d)(_:R (.d (.bl (decide (a*d=c*b)))))
inductive Ed (ss:List S)(R:S->Prop)(U_:Str->Prop):Prop
 |mk (ds:Cs)(k:Rat)(cs:Cs)(m:Rat)(L:Cs)(K:Rat)(C:Cs)(M:Rat)(_:ss=[.d (crv ds k),.d (crv cs m),.d (crv C M)])(_:KL cs m)(_:KL ds k)(_:Crv L K)(_:(∀t,0<=t->IsL (gap cs m ds k) t (val L K t)))(_:Crv C M)(_:(∀t,0<=t->val C M t=val cs m t-val L K t))(_:KL C M)(_:R (.d (.bl true)))
inductive E9 (ss:List S)(R:S->Prop)(U_:Str->Prop):Prop
 |mk (os:Cs)(om:Rat)(C:Cs)(M:Rat)(L:Cs)(K:Rat)(a b k:Nat)(_:ss=[.d (crv os om),.d (crv C M)])(_:Ord os)(_:Ord C)(_:(SzC a os/\Sz a om/\SzC b C/\Sz b M))(_:(∀i,i<os.length->Sz k (tt os i)))(_:(∀i,i<C.length->Sz k (tt C i)))(_:(6*a+6*b+2*k+9<=12999/\k<=2400))(_:os.length<=6000)(_:C.length<=6000)(_:Ih L K)(_:(∀t,0<=t->val os om t-val C M t=val L K t))(_:∀ts:List Rat,(∀t∈ts,0<=t/\Sz k t)->ts.length<=os.length+C.length->Ord (itp ts (val L K))->(∀x,0<=x->val (itp ts (val L K)) (om-M) x=val L K x)->R (.d (crv (itp ts (val L K)) (om-M))))
inductive FH (ss:List S)(R:S->Prop)(U_:Str->Prop):Prop
 |mk (ns:List Int)(b s h:Int)(_:ss=[.r (ns.map D.int),.d (.int b),.d (.int s),.d (.int h)])(_:0<=b)(_:b<=50)(_:0<=s)(_:s<=12)(_:1<=h)(_:h<=12)(_:∀ws:List (Nat×Nat),(ws.length:Int)=s->(∀w∈ws,w.1<=w.2/\(w.2:Int)<h)->R (.l (ws.map wD)))
inductive EZ (ss:List S)(R:S->Prop)(U_:Str->Prop):Prop
 |mk (ns:List Int)(b o:Int)(_:ss=[.r (ns.map D.int),.d (.int b),.d (.int o)])(_:0<=b)(_:b<=60)(_:(o=0\/o=1))(_:∀(cs:Cs)(m:Rat),KW cs m->R (.d (crv cs m)))
inductive EA (ss:List S)(R:S->Prop)(U_:Str->Prop):Prop
 |mk (t:Tab)(U NN:Nat->Nat->Nat)(hs cs:List Cq)(ws:List (Nat×Nat))(r a:Nat->Nat->Cq)(_:ss=[.r (hs.map crP),.r (cs.map crP),.r (ws.map wD),.r ((List.range cs.length).map fun k=>lvD a k (ws.getD k (0,0)))])(_:ws.length=cs.length)(_:(∀w∈ws,w.1<=w.2/\w.2<hs.length))(_:t.Ok cs.length hs.length)(_:Lw t U NN cs.length hs.length)(_:cs.length<=12)(_:hs.length<=12)(_:Run t hs cs ws cs.length r a)(_:R (.d (.bl true)))
inductive FC (ss:List S)(R:S->Prop)(U_:Str->Prop):Prop
 |mk (ns:List Int)(b o m:Int)(_:ss=[.r (ns.map D.int),.d (.int b),.d (.int o),.d (.int m)])(_:0<=b)(_:b<=60)(_:(o=0\/o=1))(_:1<=m)(_:m<=12)(_:∀v s:Int,0<=v->v<=1000000->(o=0->v=0)->0<=s->s<=6*m->R (.d (crv [(0,(v:Rat))] (s:Rat))))
abbrev Rl:Sp3:=JW
inductive Ec (ss:List S)(R:S->Prop)(U_:Str->Prop):Prop
 |mk (x:D)(_:ss=[.d x])(_:Ni x=true)(_:R (.d (.bl (isW x))))
section
variable {P:Program}{w:World}{K:W.Frag}{mg:Str->Option Value}{base:Heap}{f:Addr}{fd:FuncData}
variable {K_CurveError K_NoRatio K_NoCurve K_NoTime K_NoWay:Addr}
theorem Gi:Ae ["thing"] ["thing"] (Ac D6):=scN
variable (Ah:mg "isinstance"=none)
variable (Fo:mg "int"=none)
variable (El:mg "bool"=none)
include Ah Fo El in
theorem Ju (F:Fun K "is_whole" "is_whole" D6 f fd):Az P w K mg base CX0 1 f fd ["thing"] (Ag K mg Gp):=by
 refine fn3 F Gi (fun ss R U h=>?_) (fun cdv A outer s H E ss R U hr h=>?_)
 .obtain⟨a,rfl,_⟩:=h;rfl
 obtain⟨a,rfl,q⟩:=h
 refine#[_,(BC (QB (FR .int (vN 0) rfl Ah rfl Fo qBD) (Pw (QO (FR .bool (vN 0) rfl Ah rfl El qB1))))),?_]
 refine#[trivial,#[trivial,?_]]
 exact q
variable (C2:Cal P w K mg base (CXU P w) 1 "is_whole" ["thing"] Gp)
include Ah Fo El in
theorem GU (F:Fun K "is_whole" "is_whole" D6 f fd):Az P w K mg base CX0 1 f fd ["thing"] (Ag K mg Ec):=by
 refine fn3 F Gi (fun ss R U h=>?_) (fun cdv A outer s H E ss R U hr h=>?_)
 .obtain⟨x,rfl,_⟩:=h;rfl
 obtain⟨x,rfl,hp,q⟩:=h
 refine#[_,(BC (QB (FR .int (vN 0) rfl Ah rfl Fo qBD) (Pw (QO (FR .bool (vN 0) rfl Ah rfl El qB1))))),?_]
 cases x with
 |int a=>exact#[trivial,#[trivial,q]]
 |bl b=>exact#[trivial,#[trivial,q]]
 |non=>exact#[trivial,q]
 |str z=>exact#[trivial,q]
 |tup z=>exact#[trivial,q]
 |lst z=>exact#[trivial,q]
 |ty z=>cases hp
 |ref z=>cases hp
variable (BJ:Cal P w K mg base (CXU P w) 1 "is_whole" ["thing"] Ec)
theorem Ck:Ae ["one","other","great","small","rest"] ["one","other"] (Ac Gg):=scN
variable (IB:mg "abs"=none)
include IB in
theorem Li (F:Fun K "divisor" "divisor" Gg f fd):Az P w K mg base CX0 1 f fd ["one","other"] (Ag K mg G3):=by
 refine fn3 F Ck (fun ss R U h=>?_) (fun cdv A outer s H E ss R U hr h=>?_)
 .obtain⟨a,b,rfl,_⟩:=h;rfl
 obtain⟨a,b,rfl,q⟩:=h
 refine#[_,(Aa (AU 2 Ck (HB P9 rfl IB qB6 (a1 (vN 0))))
  (Aa (AU 3 Ck (HB P9 rfl IB qB6 (a1 (vN 1))))
  (Aa (Fu PassesOwn.never (Cy NU (vN 3) Ad) (Aa (AU 4 Ck (Ao BQ (vN 2) (vN 3)))
  (Aa (AU 2 Ck (vN 3))
  (Ai (AU 3 Ck (vN 4))))))
  (Ai (E4 (pv 2)))))),?_]
 refine#[fun m τ=>∃x y z,τ=[I a,I b,I x,I y,z]/\0<=x/\0<=y/\g x y=g a b/\m=y.toNat,#[_,_,_,_,rfl,?_,?_,RL a b,rfl],?_]
 .exact Ma a
 .exact Ma b
 rintro m τ ⟨x,y,z,rfl,h1,h2,h3,rfl⟩
 refine IY (fun c=>?_) (fun c=>?_)
 .refine#[c,(x.fmod y).toNat,?_,_,_,_,rfl,h2,?_,?_,rfl]
  .have:=qCk x (show 0<y from ())
   omega
  .exact qBY x ()
  .rw[<-h3,qCp x h2]
   exact O3 ()
 .subst c
  rw[RY h1] at h3
  subst h3
  exact q
variable (EU:Cal P w K mg base (CXU P w) 1 "divisor" ["one","other"] G3)
theorem Hj:Ae ["top","bottom","common"] ["top","bottom"] (Ac JN):=scN
include C2 EU in
theorem Oy (F:Fun K "ratio" "ratio" JN f fd):Az P w K mg base CX0 2 f fd ["top","bottom"] (Ag K mg Kp):=by
 refine fn3 F Hj (fun ss R U h=>?_) (fun cdv A outer s H E ss R U hr h=>?_)
 .obtain⟨a,b,rfl,_⟩:=h;rfl
 obtain⟨a,b,rfl,hb,h1,h2,q⟩:=h
 refine#[_,(GK (B0 (PW3.pt (Hk (w_not (Bb (AK hr C2 (a1 (vN 0))))) (D8 (w_not (Bb (AK hr C2 (a1 (vN 1)))))))) (Ai MT) Ap)
  (Aa (B0 (Cy Iq (vN 1) Ad) (Ai MT) Ap)
  (Aa (AU 2 Hj (AK hr EU (a2 (vN 0) (vN 1))))
  (BV (B0 (Cy LB (vN 1) Ad) (Ai (AU 2 Hj (QG (vN 2)))) Ap)
  (BC (BP (a2 (Ao Bi (vN 0) (vN 2)) (Ao Bi (vN 1) (vN 2))))))))),?_]
 have hp:=F5 (a:=a) hb
 have hc:=Lu (a:=a) hb
 refine#[#[a,rfl,#[b,rfl,rfl]],?_]
 refine Cw (fun e=>absurd e hb) (fun _=>?_)
 refine#[a,b,rfl,?_]
 refine#[fun τ=>τ=[I a,I b,I (cm a b)],?_,?_]
 .refine Cw (fun e=>?_) (fun e=>?_)
  .have e':cm a b=-(g a b):=if_pos e
   rw[e']
   rfl
  .have e':cm a b=g a b:=if_neg e
   rw[e']
   rfl
 rintro τ rfl
 refine#[#[hc,Tc h1],#[hc,Tc h2],(by show 2<=1000;decide),?_]
 show R (.d (.tup [.int (a.fdiv (cm a b)),.int (b.fdiv (cm a b))]))
 rw[hp.1,hp.2]
 exact q
variable (BO:Cal P w K mg base (CXU P w) 2 "ratio" ["top","bottom"] Kp)
theorem Qd:Ae ["one","other"] ["one","other"] (Ac M1):=scN
include BO in
theorem QV (F:Fun K "plus" "plus" M1 f fd):Az P w K mg base CX0 3 f fd ["one","other"] (Ag K mg Mr):=by
 refine fn3 F Qd (fun ss R U h=>?_) (fun cdv A outer s H E ss R U hr h=>?_)
 .obtain⟨p,q,k,l,rfl,_⟩:=h;rfl
 obtain⟨q1,q2,k,l,rfl,h1,h2,hk,q⟩:=h
 refine#[_,(BC (AK hr BO (a2 (Ao A7 (Ao A6 (vK 0) (vK 1)) (Ao A6 (vK 1) (vK 0))) (Ao A6 (vK 0) (vK 1))))),?_]
 have m1:=Ay h1.1 (Av h2)
 have m2:=Ay h2.1 (Av h1)
 have m3:=Ay (Av h1) (Av h2)
 rw[qCv l k] at m2
 refine#[Bd h1.1 (Av h2) (),Bd h2.1 (Av h1) (),Bd (Av h1) (Av h2) (),_,_,rfl,Lc q1 q2,AJ (MM m1 m2) (),AJ m3 (),?_]
 rw[MG q1 q2]
 exact q
variable (Gj:Cal P w K mg base (CXU P w) 3 "plus" ["one","other"] Mr)
theorem NS:Ae ["one","other"] ["one","other"] (Ac JK):=scN
include BO in
theorem NT (F:Fun K "minus" "minus" JK f fd):Az P w K mg base CX0 3 f fd ["one","other"] (Ag K mg Ky):=by
 refine fn3 F NS (fun ss R U h=>?_) (fun cdv A outer s H E ss R U hr h=>?_)
 .obtain⟨p,q,k,l,rfl,_⟩:=h;rfl
 obtain⟨q1,q2,k,l,rfl,h1,h2,hk,q⟩:=h
 refine#[_,(BC (AK hr BO (a2 (Ao CB (Ao A6 (vK 0) (vK 1)) (Ao A6 (vK 1) (vK 0))) (Ao A6 (vK 0) (vK 1))))),?_]
 have m1:=Ay h1.1 (Av h2)
 have m2:=Ay h2.1 (Av h1)
 have m3:=Ay (Av h1) (Av h2)
 rw[qCv l k] at m2
 refine#[Bd h1.1 (Av h2) (),Bd h2.1 (Av h1) (),Bd (Av h1) (Av h2) (),_,_,rfl,Lc q1 q2,AJ (IK m1 m2) (),AJ m3 (),?_]
 rw[J5 q1 q2]
 exact q
variable (A5:Cal P w K mg base (CXU P w) 3 "minus" ["one","other"] Ky)
theorem NK:Ae ["one","other"] ["one","other"] (Ac JM):=scN
include BO in
theorem Oc (F:Fun K "times" "times" JM f fd):Az P w K mg base CX0 3 f fd ["one","other"] (Ag K mg Km):=by
 refine fn3 F NK (fun ss R U h=>?_) (fun cdv A outer s H E ss R U hr h=>?_)
 .obtain⟨p,q,k,l,rfl,_⟩:=h;rfl
 obtain⟨q1,q2,k,l,rfl,h1,h2,hk,q⟩:=h
 refine#[_,(BC (AK hr BO (a2 (Ao A6 (vK 0) (vK 1)) (Ao A6 (vK 0) (vK 1))))),?_]
 refine#[Bd h1.1 h2.1 (),Bd (Av h1) (Av h2) (),_,_,rfl,Lc q1 q2,AJ (Ay h1.1 h2.1) (),AJ (Ay (Av h1) (Av h2)) (),?_]
 rw[JX q1 q2]
 exact q
variable (Hh:Cal P w K mg base (CXU P w) 3 "times" ["one","other"] Km)
theorem Qb:Ae ["one","other"] ["one","other"] (Ac LU):=scN
include BO in
theorem Pp (F:Fun K "over" "over" LU f fd):Az P w K mg base CX0 3 f fd ["one","other"] (Ag K mg M5):=by
 refine fn3 F Qb (fun ss R U h=>?_) (fun cdv A outer s H E ss R U hr h=>?_)
 .obtain⟨p,q,k,l,rfl,_⟩:=h;rfl
 obtain⟨q1,q2,k,l,rfl,h1,h2,hk,h0,q⟩:=h
 refine#[_,(BC (AK hr BO (a2 (Ao A6 (vK 0) (vK 1)) (Ao A6 (vK 0) (vK 1))))),?_]
 refine#[Bd h1.1 (Av h2) (),Bd (Av h1) h2.1 (),_,_,rfl,Sz.den_ne (k:=0) h0,AJ (Ay h1.1 (Av h2)) (),AJ (Ay (Av h1) h2.1) (),?_]
 rw[MO q1 q2 h0]
 exact q
variable (F7:Cal P w K mg base (CXU P w) 3 "over" ["one","other"] M5)
theorem NH:Ae ["one","other"] ["one","other"] (Ac Jm):=scN
theorem Ob (F:Fun K "under" "under" Jm f fd):Az P w K mg base CX0 1 f fd ["one","other"] (Ag K mg Ka):=by
 refine fn3 F NH (fun ss R U h=>?_) (fun cdv A outer s H E ss R U hr h=>?_)
 .obtain⟨p,q,k,l,rfl,_⟩:=h;rfl
 obtain⟨q1,q2,k,l,rfl,h1,h2,hk,q⟩:=h
 refine#[_,(BC (Lq LB (Ao A6 (vK 0) (vK 1)) (Ao A6 (vK 1) (vK 0)) (Ej _))),?_]
 refine#[Bd h1.1 (Av h2) (),Bd h2.1 (Av h1) (),?_]
 have e:decide (q1.num*(q2.den:Int)<q2.num*(q1.den:Int))=decide (q1<q2):=decide_eq_decide.mpr (lt_iff q1 q2)
 show R (.d (.bl (decide (q1.num*(q2.den:Int)<q2.num*(q1.den:Int)))))
 rw[e]
 exact q
variable (Ax:Cal P w K mg base (CXU P w) 1 "under" ["one","other"] Ka)
theorem Ll:Ae ["one","other"] ["one","other"] (Ac Gy):=scN
include Ax in
theorem K3 (F:Fun K "greater" "greater" Gy f fd):Az P w K mg base CX0 2 f fd ["one","other"] (Ag K mg G6):=by
 refine fn3 F Ll (fun ss R U h=>?_) (fun cdv A outer s H E ss R U hr h=>?_)
 .obtain⟨p,q,k,l,rfl,_⟩:=h;rfl
 obtain⟨q1,q2,k,l,rfl,h1,h2,hk,q⟩:=h
 refine#[_,(Aa (B0 (Bb (AK hr Ax (a2 (vN 0) (vN 1)))) (Ai (E4 (pv 1))) Ap)
  (Ai (E4 (pv 0)))),?_]
 refine#[q1,q2,k,l,rfl,h1,h2,(),?_]
 refine Cw (fun e=>?_) (fun e=>?_)
 .rw[if_pos e] at q
  exact q
 .rw[if_neg e] at q
  exact q
variable (DE:Cal P w K mg base (CXU P w) 2 "greater" ["one","other"] G6)
theorem GV:Ae ["corners"] ["corners"] (Ac Dh):=scN
variable (Ar:mg "len"=none)
variable (gc_NOUGHT:GC K mg "NOUGHT" (.tup [(.int 0),(.int 1)]))
variable (ec_NoCurve:ExC K "NoCurve" K_NoCurve)
variable (m_NoCurve:mg "NoCurve"=some (.ref K_NoCurve))
include Ax Ar gc_NOUGHT ec_NoCurve m_NoCurve in
theorem GJ (F:Fun K "check_begin" "check_begin" Dh f fd):Az P w K mg base (CXU P w) 2 f fd ["corners"] (Ag K mg Ea):=by
 refine fnW (fun ss R U h=>?_) (fnU F GV (fun ss R U h=>?_) (fun cdv A outer s H E ss R U hr h xo=>?_))
 .obtain⟨x,cs,rfl,hx,hl,hz,q,qu⟩:=h
  rcases hx with rfl|rfl<;>exact#[_,cs,rfl,(.inl rfl),hl,hz,q,qu]
 .obtain⟨x,cs,rfl,_⟩:=h.1;rfl
 obtain⟨h,nl_⟩:=h
 obtain⟨x,cs,rfl,hx,hl,hz,q,qu⟩:=h
 refine#[_,(Aa (B0 (Cy Iq (BA Ar (vN 0)) Ad) (Ai (CV xo rfl GO rfl ec_NoCurve m_NoCurve)) Ap)
  (Aa (B0 (Cy (Nv 1 (hu_ hr ∅)) (AF (vK 0) Ad) (Qs rfl gc_NOUGHT)) (Ai (CV xo rfl GO rfl ec_NoCurve m_NoCurve)) Ap)
  (Ai (B0 (Bb (HQ xo hr Ax (a2 (AF (vK 0) Ad) (Qs rfl gc_NOUGHT)))) (Ai (CV xo rfl GO rfl ec_NoCurve m_NoCurve)) Ap)))),?_]
 obtain rfl:=L6 hx (nl_ _ (by simp))
 refine Cw (fun c=>?_) (fun c=>?_)
 .exact qu (fun z=>by have:=z.1;rw[qAa] at c;omega)
 have c0:0<cs.length:=by rw[qAa] at c;omega
 have a0:=BU (cs:=cs) (i:=0) 0 rfl c0
 have z0:=hz 0 c0
 refine atR a0 ?_
 refine#[rfl,rfl,neT (tt cs 0) 0 (fun c=>qu (fun z=>c z.2.1)) (fun e0=>?_)]
 refine atR a0 ?_
 refine#[_,0,_,_,rfl,z0.2,Sz.zero,∅,?_]
 refine Cw (fun c=>qu (fun z=>absurd c (qAR.mpr z.2.2))) (fun c=>?_)
 exact q #[c0,e0,qAR.mp c]
variable (Ci:Cal P w K mg base (CXU P w) 2 "check_begin" ["corners"] Ea)
theorem B9:Ae ["corners","number","ahead","corner"] ["corners"] (Ac DA):=scN
variable (Am:mg "range"=none)
include Ax Ar ec_NoCurve m_NoCurve Am in
theorem Hr (F:Fun K "check_rise" "check_rise" DA f fd):Az P w K mg base (CXU P w) 2 f fd ["corners"] (Ag K mg EV):=by
 refine fnW (fun ss R U h=>?_) (fnU F B9 (fun ss R U h=>?_) (fun cdv A outer s H E ss R U hr h xo=>?_))
 .obtain⟨x,cs,rfl,hx,c0,hl,hz,q,qu⟩:=h
  rcases hx with rfl|rfl<;>exact#[_,cs,rfl,(.inl rfl),c0,hl,hz,q,qu]
 .obtain⟨x,cs,rfl,_⟩:=h.1;rfl
 obtain⟨h,nl_⟩:=h
 obtain⟨x,cs,rfl,hx,c0,hl,hz,q,qu⟩:=h
 refine#[_,(Ai (GZ (Bq PassesOwn.leaving rfl (BX rfl Am (PA3.out (a2 Ad (BA Ar (vN 0))))) (AH (i:=1) B9.nd rfl (Or.inl rfl)) (CY.out (Aa (AU 2 B9 (AF (vN 0) (Ao CB (vN 1) Ad)))
  (Aa (AU 3 B9 (AF (vN 0) (vN 1)))
  (Aa (B0 (w_not (Bb (HQ xo hr Ax (a2 (vK 2) (vK 3))))) (Ai (CV xo rfl GO rfl ec_NoCurve m_NoCurve)) Ap)
  (Ai (B0 (Bb (HQ xo hr Ax (a2 (vK 3) (vK 2)))) (Ai (CV xo rfl GO rfl ec_NoCurve m_NoCurve)) Ap))))))))),?_]
 obtain rfl:=L6 hx (nl_ _ (by simp))
 refine#[#[∅,∅,by rw[qAa];omega,by rw[qAa];omega],?_]
 refine#[fun n τ=>∃y0 y1 y2,τ=[some (.r (cs.map cd)),y0,y1,y2]/\Ris cs n,#[_,_,_,rfl,fun k hk=>absurd hk (qAZ k)],?_,?_]
 .rintro n τ hn ⟨y0,y1,y2,rfl,hr⟩
  rw[qAa] at hn
  have n1:n+1<cs.length:=()
  have z0:=hz n ()
  have z1:=hz (n+1) n1
  refine atR (BU (cs:=cs) n () ()) ?_
  refine atR (BU (cs:=cs) (n+1) () n1) ?_
  refine#[_,_,_,_,rfl,z0.1,z1.1,∅,?_]
  refine IY (fun c=>qu (fun z=>c (z n () n1).1)) (fun lt=>?_)
  refine#[_,_,_,_,rfl,z1.2,z0.2,∅,?_]
  refine Cw (fun c=>qu (fun z=>absurd c (qAR.mpr (z n () n1).2))) (fun c=>?_)
  refine#[_,_,_,rfl,fun k hk k1=>?_]
  by_cases e:k<n
  .exact hr k e k1
  .have e':k=n:=()
   subst e'
   exact#[lt,qAR.mp c]
 rintro τ ⟨y0,y1,y2,rfl,hr⟩
 rw[qAa,show((cs.length:Int)-1).toNat=cs.length-1 from ()] at hr
 exact q (fun k hk k1=>hr k () k1)
variable (CJ:Cal P w K mg base (CXU P w) 2 "check_rise" ["corners"] EV)
theorem FQ:Ae ["one","other"] ["one","other"] (Ac Cv):=scN
include A5 F7 in
theorem FI (F:Fun K "slope_between" "slope_between" Cv f fd):Az P w K mg base CX0 4 f fd ["one","other"] (Ag K mg Dy):=by
 refine fn3 F FQ (fun ss R U h=>?_) (fun cdv A outer s H E ss R U hr h=>?_)
 .obtain⟨a,b,c,d,n,e,f,rfl,_⟩:=h;rfl
 obtain⟨a,b,c,d,n,e,f,rfl,hn,ha,hb,hc,hd,he,hf,hs,h0,q⟩:=h
 refine#[_,(BC (AK hr F7 (a2 (AK hr A5 (a2 (vK 1) (vK 0))) (AK hr A5 (a2 (vK 1) (vK 0)))))),?_]
 refine#[d,b,n,n,rfl,hd,hb,(),?_]
 refine#[c,a,n,n,rfl,hc,ha,(),?_]
 exact#[d-b,c-a,f,e,rfl,hf,he,(),h0,q]
variable (AM:Cal P w K mg base (CXU P w) 4 "slope_between" ["one","other"] Dy)
theorem Dv:Ae ["points","last","slopes"] ["points","last"] (Ac BG):=scN
include Ar Am AM in
theorem FO (F:Fun K "slopes_behind" "slopes_behind" BG f fd):Az P w K mg base CX0 5 f fd ["points","last"] (Ag K mg Dx):=by
 refine fnW (fun ss R U h=>?_) (fn3 F Dv (fun ss R U h=>?_) (fun cdv A outer s H E ss R U hr h=>?_))
 .obtain⟨x,cs,m,rfl,hx,c0,hl,hz,df,up,q⟩:=h
  rcases hx with rfl|rfl<;>exact#[_,cs,m,rfl,(.inl rfl),c0,hl,hz,df,up,q]
 .obtain⟨x,cs,m,rfl,_⟩:=h.1;rfl
 obtain⟨h,nl_⟩:=h
 obtain⟨x,cs,m,rfl,hx,c0,hl,hz,df,up,q⟩:=h
 refine#[_,(Aa (OO (i:=2) (N:=["number","points"]) (idx:=[0]) (Bo.mk' (Ac BG) ["points","last","slopes"] rfl rfl (by decide +kernel)) rfl (BX rfl Am (PA3.out (a2 Ad (BA Ar (vN 0))))) J1 (fun cl C s₀ H₀ fp=>Dm) (fun cl C s₀ H₀ fp=>(AK hr AM (a2 (AF (vN 1) (Ao CB (vN 0) Ad)) (AF (vN 1) (vN 0))))) Dv.nd rfl (Or.inl rfl))
  (Aa (Fb (Bg (DR qAx qAy qAz AB (pv 2) (Ak (PE3.out (vN 1)) AA))))
  (Ai (E4 (pv 2))))),?_]
 obtain rfl:=L6 hx (nl_ _ (by simp))
 refine#[#[∅,∅,by rw[qAa];omega,by rw[qAa];omega],?_]
 have eN:((((cs.map cd).length:Nat):Int)-1).toNat=cs.length-1:=by rw[qAa];omega
 refine#[(List.range (cs.length-1)).map fun i=>some (qd (slp cs m i)),by rw[AV,eN,qAa,qAt],?_,?_,?_]
 .intro n x hx
  obtain⟨hn,rfl⟩:=C6 hx
  rw[eN] at hn
  have n1:n+1<cs.length:=()
  have z0:=hz n ()
  have z1:=hz (n+1) n1
  refine atR (BU (cs:=cs) n () ()) ?_
  refine atR (BU (cs:=cs) (n+1) () n1) ?_
  obtain⟨e,f,he,hf,hs⟩:=df n n1
  refine#[tt cs n,vv cs n,tt cs (n+1),vv cs (n+1),6400,e,f,rfl,∅,z0.1,z0.2,z1.1,z1.2,he,hf,hs,Ef (up n n1),?_]
  show((List.range (cs.length-1)).map _)[n]? = _
  rw[qAh,qA6 ()]
  show some (some (qd (slp cs m n)))=_
  rw[CK n1]
 .rw[AV,eN];omega
 refine#[?_,?_]
 .have:=qCw id ((List.range (cs.length-1)).map fun i=>some (qd (slp cs m i)))
  rw[qAa,qAt] at this
  omega
 show R (.l (_++[qd m]))
 rw[Oo cs m c0]
 exact q
variable (AL:Cal P w K mg base (CXU P w) 5 "slopes_behind" ["points","last"] Dx)
theorem FZ:Ae ["corners","last","slopes","kept","number"] ["corners","last"] (Ac Jy):=scN
variable (Bh:mg "tuple"=none)
include Ax Ar gc_NOUGHT ec_NoCurve m_NoCurve Ci Am CJ AL Bh in
theorem Nx (F:Fun K "curve" "curve" Jy f fd):Az P w K mg base (CXU P w) 6 f fd ["corners","last"] (Ag K mg KA):=by
 refine fnW (fun ss R U h=>?_) (fnU F FZ (fun ss R U h=>?_) (fun cdv A outer s H E ss R U hr h xo=>?_))
 .obtain⟨x,cs,m,rfl,hx,hz,q,qu⟩:=h
  rcases hx with rfl|rfl<;>exact#[_,cs,m,rfl,(.inl rfl),hz,q,qu]
 .obtain⟨x,cs,m,rfl,_⟩:=h.1;rfl
 obtain⟨h,nl_⟩:=h
 obtain⟨x,cs,m,rfl,hx,hz,q,qu⟩:=h
 refine#[_,(Aa (Kw (HQ xo hr Ci (a1 (vN 0))))
  (Aa (Kw (HQ xo hr CJ (a1 (vN 0))))
  (Aa (B0 (Bb (HQ xo hr Ax (a2 (vN 1) (Qs rfl gc_NOUGHT)))) (Ai (CV xo rfl GO rfl ec_NoCurve m_NoCurve)) Ap)
  (Aa (AU 2 FZ (HQ xo hr AL (a2 (vN 0) (vN 1))))
  (Aa (AU 3 FZ (Et (a1 (vK 0))))
  (Aa (GZ (Bq PassesOwn.leaving rfl (BX rfl Am (PA3.out (a2 Ad (BA Ar (vN 0))))) (AH (i:=4) FZ.nd rfl (Or.inl rfl)) (CY.out (Ai (B0 (Cy (Nv 1 (hu_ hr ∅)) (AF (vN 2) (vN 4)) (AF (vN 2) (Ao CB (vN 4) Ad))) (Ai (Fb (Bg (DR qAx qAy qAz AB (pv 3) (Ak (PE3.out (AF (vN 0) (vN 4))) AA))))) Ap)))))
  (BC (BP (a2 (JO (vN 3) rfl Bh) (vN 1)))))))))),?_]
 obtain rfl:=L6 hx (nl_ _ (by simp))
 have hl:=hz.len
 refine#[_,cs,rfl,Or.inl rfl,hl,hz.cs,fun hb=>?_,fun nb=>qu (fun z=>nb #[z.1.ne,z.1.t0,z.1.v0])]
 refine#[_,cs,rfl,Or.inl rfl,hb.1,hl,hz.cs,fun hr=>?_,fun nr=>qu (fun z=>nr (fun k _ k1=>#[z.1.up k k1,z.1.vu k k1]))]
 refine#[m,0,_,_,rfl,hz.m,Sz.zero,∅,?_]
 refine Cw (fun c=>qu (fun z=>absurd c (qAR.mpr z.2))) (fun c=>?_)
 have hm:0<=m:=qAR.mp c
 have c0:=hb.1
 have ho:Ord cs:=#[hb.1,hb.2.1,hb.2.2,fun k k1=>(hr k () k1).1,fun k k1=>(hr k () k1).2]
 refine#[_,cs,m,rfl,Or.inl rfl,c0,hl,hz.cs,hz.df,ho.up,?_]
 refine atR (BU (cs:=cs) (i:=0) 0 rfl c0) ?_
 refine#[(by show 1<=1000;decide),?_]
 refine#[#[∅,∅,by rw[qAa];omega,by rw[qAa];omega],?_]
 refine#[fun n τ=>∃y,τ=[some (.r (cs.map cd)),some (.d (qd m)),some (.l ((NA cs m).map qd)),some (.l ((kp cs m n).map cd)),y],#[_,rfl],?_,?_]
 .rintro n τ hn ⟨y,rfl⟩
  rw[qAa] at hn
  have n1:n+1<cs.length:=()
  refine atR (PU (n+1) () n1) ?_
  refine atR (PU n () ()) ?_
  refine#[rfl,rfl,neT (slp cs m (n+1)) (slp cs m n) (fun c=>?_) (fun c=>?_)]
  .refine atR (BU (cs:=cs) (n+1) () n1) ?_
   refine#[?_,some (.d (.int (1+n*1))),?_]
   .rw[qAa]
    have:=Kf cs m n
    omega
   .rw[ME (fun z=>c z.symm),qAB]
    rfl
  .refine#[some (.d (.int (1+n*1))),?_]
   rw[Gu c.symm]
   rfl
 rintro τ ⟨y,rfl⟩
 rw[qAa,show((cs.length:Int)-1).toNat=cs.length-1 from ()]
 exact#[(by show 2<=1000;decide),q #[ho,hm]]
variable (Ew:Cal P w K mg base (CXU P w) 6 "curve" ["corners","last"] KA)
theorem Hv:Ae ["t"] ["t"] (Ac DI):=scN
variable (ec_NoTime:ExC K "NoTime" K_NoTime)
variable (m_NoTime:mg "NoTime"=some (.ref K_NoTime))
include Ax gc_NOUGHT ec_NoTime m_NoTime in
theorem Hg (F:Fun K "check_time" "check_time" DI f fd):Az P w K mg base (CXU P w) 2 f fd ["t"] (Ag K mg ET):=by
 refine fnU F Hv (fun ss R U h=>?_) (fun cdv A outer s H E ss R U hr h xo=>?_)
 .obtain⟨t,n,rfl,_⟩:=h;rfl
 obtain⟨t,n,rfl,hn,ht,q,qu⟩:=h
 refine#[_,(Ai (B0 (Bb (HQ xo hr Ax (a2 (vN 0) (Qs rfl gc_NOUGHT)))) (Ai (CV xo rfl GO rfl ec_NoTime m_NoTime)) Ap)),?_]
 refine#[t,0,_,_,rfl,ht,Sz.zero,(),?_]
 exact Cw (fun c=>qu (qBT.mpr c)) (fun c=>q (qAR.mp c))
variable (CF:Cal P w K mg base (CXU P w) 2 "check_time" ["t"] ET)
theorem Be:Ae ["corners","holds","low","high","middle"] ["corners","holds"] (Ac Dk):=scN
include Ar in
theorem GI (F:Fun K "count_while" "count_while" Dk f fd):K4 P w K mg base 5 4 f fd ["corners","holds"] Eb:=by
 refine Vo (fun a dom p ss R U h=>?_) (fnL F Be (fun a dom p ss R U h=>?_) (fun cdv A outer s H E a dom p ss R U hr hL h=>?_))
 .obtain⟨x,xs,n,rfl,hx,hl,hn,hp,q⟩:=h
  rcases hx with rfl|rfl|rfl
  .exact#[_,xs,n,rfl,(.inl rfl),hl,hn,hp,q]
  all_goals exact#[_,xs,n,rfl,(.inr (.inl rfl)),hl,hn,hp,q]
 .obtain⟨x,xs,n,rfl,_⟩:=h.1;rfl
 obtain⟨h,nl_⟩:=h
 obtain⟨x,xs,n,rfl,hx,hl,hn,hp,q⟩:=h
 refine#[_,(Aa (AU 2 Be Ad)
  (Aa (AU 3 Be (BA Ar (vN 0)))
  (Aa (Fu PassesOwn.never (Cy LB (vN 2) (vN 3)) (Aa (AU 4 Be (Ao Bi (Ao A7 (vN 2) (vN 3)) Ad))
  (Ai (B0 (Bb (QI hL (hr.mono ∅) (pv 1) (AF (vN 0) (vN 4)))) (Ai (AU 2 Be (Ao A7 (vN 4) Ad))) (Ai (AU 3 Be (vN 4)))))))
  (Ai (E4 (pv 2)))))),?_]
 replace hx:=hx.imp_right fun z=>L6 z (nl_ _ (by simp))
 rcases hx with rfl|rfl
 all_goals
  first|refine#[fun m τ=>∃(lo hi:Int)(y:Option S),τ=[some (.d (.tup xs)),some (.d (.ref a)),I lo,I hi,y]/\0<=lo/\lo<=n/\(n:Int)<=hi/\hi<=xs.length/\m=(hi-lo).toNat,#[_,_,_,_,rfl,∅,(),(),(),rfl],?_]|refine#[fun m τ=>∃(lo hi:Int)(y:Option S),τ=[some (.r xs),some (.d (.ref a)),I lo,I hi,y]/\0<=lo/\lo<=n/\(n:Int)<=hi/\hi<=xs.length/\m=(hi-lo).toNat,#[_,_,_,_,rfl,∅,(),(),(),rfl],?_]
  rintro m τ ⟨lo,hi,y,rfl,h1,h2,h3,h4,rfl⟩
  refine Cw (fun c=>?_) (fun c=>?_)
  .have d1:lo<=(lo+hi).fdiv 2/\(lo+hi).fdiv 2<hi:=by
    rw[qBd _ ∅]
    exact RB c
   refine#[#[nz2,Dg ∅],?_]
   generalize (lo+hi).fdiv 2=mid at d1
   have m0:0<=mid:=Int.le_trans h1 d1.1
   have em:mid=((mid.toNat:Nat):Int):=(Int.toNat_of_nonneg m0).symm
   have ml:mid.toNat<xs.length:=Vb h1 d1.1 d1.2 h4
   have hx:xs[mid.toNat]? = some xs[mid.toNat]:=qAb ml
   have b:atI xs mid=some xs[mid.toNat]:=by
    have:=atI_nat ml
    rw[<-em] at this
    rw[this]
    exact hx
   obtain⟨dm,ep⟩:=hp _ _ hx
   refine#[rfl,?_]
   refine atR b ?_
   refine#[dm,?_]
   rw[ep]
   refine Cw (fun e=>?_) (fun e=>?_)
   .exact#[(hi-(mid+1)).toNat,(),_,_,_,rfl,Int.add_nonneg m0 ∅,(),h3,h4,rfl]
   .exact#[(mid-lo).toNat,UY d1.2 d1.1,_,_,_,rfl,h1,h2,(),(),rfl]
  .have e:lo=n:=()
   subst e
   exact q
variable (Cf:Tq P w K mg base 5 4 "count_while" ["corners","holds"] Eb)
theorem Js:Ae ["f","t"] ["f","t"] (Ac D1):=scN
include Ax CF Cf in
theorem JG (F:Fun K "piece_at" "piece_at" D1 f fd){cA cT:Addr}(ht_:W.tabIn K "piece_at"=some (cA,cT)) (hn_:rA K "piece_at" f) (hp_:(PyProof.Rows.recsOf P).any (fun d=>d.name == "piece_at")=true):Az P w K mg base (CXU P w) 6 f fd ["f","t"] (Ag K mg Gw):=by
 refine VB ht_ hn_ F Js (fun ss R U h=>?_) (fun cdv A outer s H E ss R U ec hr h xo=>?_)
 .obtain⟨cs,m,t,n,rfl,_⟩:=h;rfl
 subst ec
 obtain⟨cs,m,t,n,rfl,c0,hl,t0,up,hn,hz,ht,q,qu⟩:=h
 refine#[_,(Aa (Kw (HQ xo hr CF (a1 (vN 1))))
  (BC (Ao CB (QC (x:="corner") Cf (hr.mono ∅) rfl ht_ hp_ rfl (Bo.mk' (Ac D1) ["f","t"] rfl rfl (by decide +kernel) (N:=["corner","t"]) (idx:=[1])) (vK 0) (fun cl nm a cdv A outer s H hr=>(QO (AK hr Ax (a2 (vN 1) (vK 0)))))) Ad))),?_]
 refine#[t,n,rfl,hn,ht,fun c'=>?_,fun c=>qu c]
 have h0:tt cs 0<=t:=by rw[t0];exact c'
 refine#[fun x=>∃k,k<cs.length/\x=.tup [qd (tt cs k),qd (vv cs k)],fun x=>!decide (t<tOf x),?_,?_]
 .rintro x ⟨k,hk,rfl⟩
  refine#[t,tt cs k,_,_,rfl,ht,(hz k hk).1,(),?_]
  show S.d (.bl (!decide (t<tt cs k)))=.d (.bl (!decide (t<tOf (.tup [qd (tt cs k),qd (vv cs k)]))))
  rw[OU]
 intro a
 refine#[_,_,plc cs t cs.length+1,rfl,Or.inl rfl,by rw[qAa];exact hl,by rw[qAa];exact Jf c0 _ (qAd _),fun i x hx=>?_,?_]
 .obtain⟨hi,rfl⟩:=Ga hx
  refine#[#[i,hi,rfl],?_]
  show(!decide (t<tOf (.tup [qd (tt cs i),qd (vv cs i)])))=_
  rw[OU]
  exact Qx up h0 hi
 show R (.d (.int (((plc cs t cs.length+1:Nat):Int)-1)))
 rw[show(((plc cs t cs.length+1:Nat):Int)-1)=((plc cs t cs.length:Nat):Int) from ()]
 exact q c'
variable (D4:Cal P w K mg base (CXU P w) 6 "piece_at" ["f","t"] Gw)
theorem C1:Ae ["f","number","corners"] ["f","number"] (Ac B5):=scN
include Ar AM in
theorem Fp (F:Fun K "slope_of_piece" "slope_of_piece" B5 f fd):Az P w K mg base CX0 5 f fd ["f","number"] (Ag K mg C5):=by
 refine fn3 F C1 (fun ss R U h=>?_) (fun cdv A outer s H E ss R U hr h=>?_)
 .obtain⟨cs,m,k,rfl,_⟩:=h;rfl
 obtain⟨cs,m,k,rfl,hk,hl,up,hz,df,q⟩:=h
 refine#[_,(Aa (AU 2 C1 (vK 0))
  (Aa (B0 (Cy Iq (vN 1) (Ao CB (BA Ar (vN 2)) Ad)) (BC (vK 0)) Ap)
  (BC (AK hr AM (a2 (AF (vN 2) (vN 1)) (AF (vN 2) (Ao A7 (vN 1) Ad))))))),?_]
 refine Cw (fun c=>?_) (fun c=>?_)
 .rw[qAa] at c
  rw[AE ()] at q
  exact q
 rw[qAa] at c
 have k1:k+1<cs.length:=()
 refine atR (NX hk) ?_
 refine atR (BU (cs:=cs) (k+1) () k1) ?_
 obtain⟨e,f,he,hf,hs⟩:=df k k1
 refine#[_,_,_,_,6400,e,f,rfl,∅,(hz k hk).1,(hz k hk).2,(hz _ k1).1,(hz _ k1).2,he,hf,hs,Ef (up k k1),?_]
 rw[CK k1] at q
 exact q
variable (Bx:Cal P w K mg base (CXU P w) 5 "slope_of_piece" ["f","number"] C5)
theorem Em:Ae ["f","t","number","corner"] ["f","t"] (Ac Fq):=scN
include Gj A5 Hh D4 Bx in
theorem JD (F:Fun K "value_at" "value_at" Fq f fd):Az P w K mg base (CXU P w) 7 f fd ["f","t"] (Ag K mg F4):=by
 refine fnU F Em (fun ss R U h=>?_) (fun cdv A outer s H E ss R U hr h xo=>?_)
 .obtain⟨cs,m,t,a,b,c,n,rfl,_⟩:=h;rfl
 obtain⟨cs,m,t,a,b,c,n,rfl,o,z,hl,h1,h4,hn,h2,ht,q,qu⟩:=h
 refine#[_,(Aa (AU 2 Em (HQ xo hr D4 (a2 (vN 0) (vN 1))))
  (Aa (AU 3 Em (AF (vK 0) (vN 2)))
  (Aa (B0 (Cy (P1 1 (hu_ hr ∅)) (vK 3) (vN 1)) (BC (vK 3)) Ap)
  (BC (HQ xo hr Gj (a2 (vK 3) (HQ xo hr Hh (a2 (HQ xo hr Bx (a2 (vN 0) (vN 2))) (HQ xo hr A5 (a2 (vN 1) (vK 3))))))))))),?_]
 have c0:=o.ne
 have hz:=z.szk o hl (qAd _)
 refine#[cs,m,t,6000,rfl,c0,hl,o.t0,o.up,∅,hz.cs.mono h1,ht.mono hn,fun h=>?_,fun h=>qu h]
 have q':R (.d (qd (vv cs (plc cs t cs.length)+slp cs m (plc cs t cs.length)*(t-tt cs (plc cs t cs.length))))):=q h
 have hk:plc cs t cs.length<cs.length:=Jf c0 _ (qAd _)
 generalize plc cs t cs.length=k at q' hk
 have zk:=hz.cs k hk
 have tk:=z.tm k hk
 refine atR (NX hk) ?_
 refine#[rfl,rfl,eqT (tt cs k) t (fun e=>?_) (fun e=>?_)]
 .rw[show vv cs k+slp cs m k*(t-tt cs k)=vv cs k by rw[e];grind] at q'
  exact q'
 refine#[cs,m,k,rfl,hk,hl,o.up,hz.cs.mono (),z.df o h4,?_]
 refine#[t,tt cs k,n,a,rfl,ht,tk,(),?_]
 have zs:=(z.ln o k hk).1
 refine#[_,_,_,_,rfl,zs,ht.sub tk,(),?_]
 exact#[_,_,_,_,rfl,zk.2,zs.mul (ht.sub tk),(),q']
variable (C7:Cal P w K mg base (CXU P w) 7 "value_at" ["f","t"] F4)
theorem Ld:Ae ["point","slope","height"] ["point","slope","height"] (Ac Gv):=scN
include Gj A5 F7 in
theorem K6 (F:Fun K "time_of" "time_of" Gv f fd):Az P w K mg base CX0 4 f fd ["point","slope","height"] (Ag K mg GY):=by
 refine fn3 F Ld (fun ss R U h=>?_) (fun cdv A outer s H E ss R U hr h=>?_)
 .obtain⟨a,b,s,h,n,p,l,k,rfl,_⟩:=h;rfl
 obtain⟨a,b,s,h,n,p,l,k,rfl,ha,hb,hh,hs,s0,hl,q⟩:=h
 refine#[_,(BC (AK hr Gj (a2 (vK 0) (AK hr F7 (a2 (AK hr A5 (a2 (vN 2) (vK 0))) (vN 1)))))),?_]
 refine#[h,b,l,p,rfl,hh,hb,(),?_]
 refine#[h-b,s,_,k,rfl,hh.sub hb,hs,(),s0,?_]
 exact#[a,_,n,_,rfl,ha,(hh.sub hb).div hs s0,(),q]
variable (EO:Cal P w K mg base (CXU P w) 4 "time_of" ["point","slope","height"] GY)
theorem Ib:Ae ["rows"] ["rows"] (Ac CM):=scN
include A5 in
theorem HX (F:Fun K "gap_points" "gap_points" CM f fd):Az P w K mg base CX0 4 f fd ["rows"] (Ag K mg E7):=by
 refine fn3 F Ib (fun ss R U h=>?_) (fun cdv A outer s H E ss R U hr h=>?_)
 .obtain⟨x,cs,m,ds,k,ts,v,rfl,_⟩:=h;rfl
 obtain⟨x,cs,m,ds,k,ts,v,rfl,hx,hl,hv,hz,q⟩:=h
 refine#[_,(BC (L8 (N:=["row"]) (idx:=[]) (Bo.mk' (Ac CM) ["rows"] rfl rfl (by decide +kernel)) rfl (C4 (PE3.out (vN 0))) JR (fun cl C s₀ H₀ fp=>Dm) (fun cl C s₀ H₀ fp=>(BP (a2 (vK 0) (AK hr A5 (a2 (vK 0) (vK 0)))))))),?_]
 rcases hx with rfl|rfl
 all_goals
  refine#[ts.map fun t=>some (.tup [qd t,qd (gap cs m ds k t)]),by rw[qAa,qAa],?_,?_,?_]
  .intro i x hx
   obtain⟨t,et,rfl⟩:=Cd hx
   obtain⟨hi,eT⟩:=OV et
   have z:=hz i hi
   rw[eT] at z
   refine#[_,_,_,_,rfl,z.1,z.2,(),?_]
   refine#[(by show 2<=1000;decide),?_]
   show(ts.map _)[i]? = _
   rw[qAh,et]
   rfl
  .rw[qAa];omega
  rw[Gh ts (fun t=>.tup [qd t,qd (gap cs m ds k t)])]
  have e:(gcs cs m ds k ts).map cd=ts.map (fun t=>.tup [qd t,qd (gap cs m ds k t)]):=by
   unfold gcs
   rw[qBt]
   rfl
  rw[e] at q
  exact q
variable (Bn:Cal P w K mg base (CXU P w) 4 "gap_points" ["rows"] E7)
theorem AO:Ae ["f","g","others","told","place","corner"] ["f","g"] (Ac BR):=scN
include Ax Ar in
theorem F8 (F:Fun K "corner_times" "corner_times" BR f fd):Az P w K mg base CX0 2 f fd ["f","g"] (Ag K mg DL):=by
 refine fn3 F AO (fun ss R U h=>?_) (fun cdv A outer s H E ss R U hr h=>?_)
 .obtain⟨cs,m,ds,k,n,rfl,_⟩:=h;rfl
 obtain⟨cs,m,ds,k,n,rfl,oc,od,lc,ld,hn,zc,zd,q⟩:=h
 refine#[_,(Aa (OO (i:=2) (N:=["corner"]) (idx:=[]) (Bo.mk' (Ac BR) ["f","g","others","told","place","corner"] rfl rfl (by decide +kernel)) rfl (C4 (PE3.out (vK 1))) JR (fun cl C s₀ H₀ fp=>Dm) (fun cl C s₀ H₀ fp=>(vK 0)) AO.nd rfl (Or.inl rfl))
  (Aa (AU 3 AO (Et FP))
  (Aa (AU 4 AO Ad)
  (Aa (Kx (Bq PassesOwn.never rfl (C4 (PE3.out (vK 0))) (AH (i:=5) AO.nd rfl (Or.inl rfl)) (CY.out (Aa (Fu PassesOwn.never (PW3.pt (Jc (Cy LB (vN 4) (BA Ar (vN 2))) (Fz (Bb (AK hr Ax (a2 (AF (vN 2) (vN 4)) (vK 5))))))) (Aa (Fb (Bg (DR qAx qAy qAz AB (pv 3) (Ak (PE3.out (AF (vN 2) (vN 4))) AA))))
  (Ai (OT (i:=4) AO.nd rfl (Or.inl rfl) Ad))))
  (BV (B0 (PW3.pt (Jc (Cy LB (vN 4) (BA Ar (vN 2))) (Fz (Cy (P1 1 (hu_ hr ∅)) (AF (vN 2) (vN 4)) (vK 5))))) (Ai (OT (i:=4) AO.nd rfl (Or.inl rfl) Ad)) Ap)
  (Ai (Fb (Bg (DR qAx qAy qAz AB (pv 3) (Ak (PE3.out (vK 5)) AA))))))))))
  (Pc 3 (BC (TH Ux (vN 3) (Vf (vN 2) (Ul (vN 4)) Vv)))))))),?_]
 refine#[ds.map fun c=>some (qd c.1),by rw[qAa,qAa],?_,?_,?_]
 .intro i x hx
  obtain⟨c,hc,rfl⟩:=Cd hx
  show(ds.map _)[i]? = _
  rw[qAh,hc]
  rfl
 .rw[qAa];omega
 have e0:(ds.map fun c=>some (qd c.1)).filterMap id=(rst ds 0).map qd:=by
  rw[Gh ds (fun c=>qd c.1)]
  unfold rst
  rw[List.drop_zero,qBt]
  rfl
 rw[e0]
 refine#[(by show 0<=1000;decide),?_]
 refine#[fun n' τ=>∃(p:Nat)(ts:List Rat)(y0 y1 y5:Option S),τ=[some (.d (crv cs m)),some (.d (crv ds k)),some (.l ((rst ds 0).map qd)),some (.l (ts.map qd)),I p,y5]/\Mrg cs ds n' p ts/\p<=ds.length/\(n'<cs.length->∀x∈ts,x<tt cs n'),#[0,[],none,none,none,rfl,Mrg.nil cs ds,qAS _,fun _ x hx=>by cases hx],?_,?_]
 .rintro n' τ x hx ⟨p,ts,y0,y1,y5,rfl,g,hp,hlt⟩
  obtain⟨hi,rfl⟩:=Ga hx
  have zi:=(zc n' hi).1
  refine#[fun mm τ=>∃(p:Nat)(ts:List Rat),τ=[some (.d (crv cs m)),some (.d (crv ds k)),some (.l ((rst ds 0).map qd)),some (.l (ts.map qd)),I p,some (.d (.tup [qd (tt cs n'),qd (vv cs n')]))]/\Mrg cs ds n' p ts/\p<=ds.length/\(n'<cs.length->∀x∈ts,x<tt cs n')/\mm=ds.length-p,#[_,p,ts,rfl,g,hp,hlt,rfl],?_]
  clear g hp hlt
  rintro mm τ ⟨p,ts,rfl,g,hp,hlt,rfl⟩
  refine Cw (fun c=>?_) (fun c=>?_)
  .have pl:p<ds.length:=by rw[qAa,CP] at c;omega
   refine atR (HJ p rfl pl) ?_
   refine#[_,_,_,_,rfl,(zd p pl).1,zi,(),?_]
   refine Cw (fun c2=>?_) (fun c2=>?_)
   .refine atR (HJ p rfl pl) ?_
    obtain⟨g2,h2⟩:=g.other od.up pl (hlt hi) c2
    refine#[by rw[qAa];have:=g.len;omega,ds.length-(p+1),(),p+1,ts++[tt ds p],by rw[qAB];rfl,g2,pl,fun _=>h2,rfl]
   .have NL:p<ds.length->tt cs n'<=tt ds p:=fun _=>qAR.mp c2
    refine#[fun τ=>∃(q:Nat)(y0 y1 y5:Option S),τ=[some (.d (crv cs m)),some (.d (crv ds k)),some (.l ((rst ds 0).map qd)),some (.l (ts.map qd)),I q,some (.d (.tup [qd (tt cs n'),qd (vv cs n')]))]/\(q=p\/(q=p+1/\p<ds.length/\tt ds p=tt cs n'))/\q<=ds.length/\∀j,q<=j->j<ds.length->tt cs n'<tt ds j,?_,?_]
    .refine Cw (fun c'=>?_) (fun c'=>?_)
     .have pl:p<ds.length:=by rw[qAa,CP] at c';omega
      refine atR (HJ p rfl pl) ?_
      refine#[rfl,rfl,eqT (tt ds p) (tt cs n') (fun e=>?_) (fun e=>?_)]
      .exact#[p+1,none,none,none,rfl,.inr #[rfl,pl,e],pl,fun j j1 j2=>by rw[<-e];exact G8 od.up () j2]
      .refine#[p,none,none,none,rfl,.inl rfl,(),fun j j1 j2=>?_]
       have lt:tt cs n'<tt ds p:=qCm (NL pl) (fun z=>e z.symm)
       by_cases z:j=p
       .rw[z];exact lt
       .have:=G8 od.up (i:=p) (j:=j) () j2
        grind
     .have pl:¬p<ds.length:=by rw[qAa,CP] at c';omega
      exact#[p,none,none,none,rfl,.inl rfl,hp,fun j j1 j2=>()]
    rintro τ ⟨q',y0,y1,y5,rfl,hq,hq2,hb⟩
    have g2:=g.one hq (hlt hi) hb
    refine#[by rw[qAa];have:=g.len;omega,q',ts++[tt cs n'],none,none,_,by rw[qAB];rfl,g2,hq2,fun c' x hx=>?_]
    rcases qAu.mp hx with hx|hx
    .have:=hlt hi x hx
     have:=oc.up n' c'
     grind
    .rw[qAw.mp hx];exact oc.up n' c'
  .have NL:p<ds.length->tt cs n'<=tt ds p:=fun z=>absurd z (by rw[qAa,CP] at c;omega)
   refine#[fun τ=>∃(q:Nat)(y0 y1 y5:Option S),τ=[some (.d (crv cs m)),some (.d (crv ds k)),some (.l ((rst ds 0).map qd)),some (.l (ts.map qd)),I q,some (.d (.tup [qd (tt cs n'),qd (vv cs n')]))]/\(q=p\/(q=p+1/\p<ds.length/\tt ds p=tt cs n'))/\q<=ds.length/\∀j,q<=j->j<ds.length->tt cs n'<tt ds j,?_,?_]
   .refine Cw (fun c'=>?_) (fun c'=>?_)
    .have pl:p<ds.length:=by rw[qAa,CP] at c';omega
     refine atR (HJ p rfl pl) ?_
     refine#[rfl,rfl,eqT (tt ds p) (tt cs n') (fun e=>?_) (fun e=>?_)]
     .exact#[p+1,none,none,none,rfl,.inr #[rfl,pl,e],pl,fun j j1 j2=>by rw[<-e];exact G8 od.up () j2]
     .refine#[p,none,none,none,rfl,.inl rfl,(),fun j j1 j2=>?_]
      have lt:tt cs n'<tt ds p:=qCm (NL pl) (fun z=>e z.symm)
      by_cases z:j=p
      .rw[z];exact lt
      .have:=G8 od.up (i:=p) (j:=j) () j2
       grind
    .have pl:¬p<ds.length:=by rw[qAa,CP] at c';omega
     exact#[p,none,none,none,rfl,.inl rfl,hp,fun j j1 j2=>()]
   rintro τ ⟨q',y0,y1,y5,rfl,hq,hq2,hb⟩
   have g2:=g.one hq (hlt hi) hb
   refine#[by rw[qAa];have:=g.len;omega,q',ts++[tt cs n'],none,none,_,by rw[qAB];rfl,g2,hq2,fun c' x hx=>?_]
   rcases qAu.mp hx with hx|hx
   .have:=hlt hi x hx
    have:=oc.up n' c'
    grind
   .rw[qAw.mp hx];exact oc.up n' c'
 rintro τ ⟨p,ts,y0,y1,y5,rfl,g,hp,hlt⟩
 rw[qAa] at g
 have gl:=g.len
 have lr:=CP ds p
 have rr:LA ((rst ds 0).map qd) (some (p:Int)) none=(rst ds p).map qd:=N4 hp
 show Tr (.lst (ts.map qd)) (.lst (LA ((rst ds 0).map qd) (some (p:Int)) none)) (fun d=>R (.d d))
 rw[rr]
 refine#[by rw[qAa,qAa];omega,?_]
 rw[<-qAB]
 exact q _ (Rm oc od g hp) (by rw[qAn];omega)
variable (BS:Cal P w K mg base (CXU P w) 2 "corner_times" ["f","g"] DL)
theorem GN:Ae ["f","g"] ["f","g"] (Ac Cb):=scN
include C7 BS in
theorem GS (F:Fun K "corner_rows" "corner_rows" Cb f fd):Az P w K mg base CX0 8 f fd ["f","g"] (Ag K mg Ei):=by
 refine fn3 F GN (fun ss R U h=>?_) (fun cdv A outer s H E ss R U hr h=>?_)
 .obtain⟨cs,m,ds,k,a,b,c,rfl,_⟩:=h;rfl
 obtain⟨cs,m,ds,k,a,b,c,rfl,oc,od,lc,ld,zc,zd,h1,h4,h2,q⟩:=h
 refine#[_,(BC (L8 (N:=["t","f","g"]) (idx:=[0,1]) (Bo.mk' (Ac Cb) ["f","g"] rfl rfl (by decide +kernel)) rfl (C4 (PE3.out (AK hr BS (a2 (vN 0) (vN 1))))) JR (fun cl C s₀ H₀ fp=>Dm) (fun cl C s₀ H₀ fp=>(BP (Bc (vN 0) (a2 (AK hr C7 (a2 (vN 1) (vN 0))) (AK hr C7 (a2 (vN 2) (vN 0))))))))),?_]
 refine#[cs,m,ds,k,6000,rfl,oc,od,lc,ld,∅,(zc.szk oc () h1).cs,(zd.szk od () h1).cs,fun ts ht hl=>?_]
 refine#[ts.map fun t=>some (rw3 cs m ds k t),by rw[qAa,qAa],?_,?_,?_]
 .intro i x hx
  obtain⟨t,et,rfl⟩:=Cd hx
  obtain⟨hi,eT⟩:=OV et
  have zt:Sz a (T ts i):=by
   rcases ht.of i hi with⟨j,hj,e⟩|⟨j,hj,e⟩
   .rw[e];exact zc.tm j hj
   .rw[e];exact zd.tm j hj
  have t0:=K5 ht hi
  rw[eT] at zt t0
  refine#[cs,m,t,a,b,c,a,rfl,oc,zc,(),h1,h4,(),(),zt,fun _=>?_,fun z=>absurd t0 z]
  refine#[ds,k,t,a,b,c,a,rfl,od,zd,(),h1,h4,(),(),zt,fun _=>?_,fun z=>absurd t0 z]
  refine#[(by show 3<=1000;decide),?_]
  show(ts.map _)[i]? = _
  rw[qAh,et]
  rfl
 .rw[qAa];omega
 rw[Gh ts (rw3 cs m ds k)]
 exact q ts ht hl
variable (A9:Cal P w K mg base (CXU P w) 8 "corner_rows" ["f","g"] Ei)
theorem Qz:Ae ["f","g"] ["f","g"] (Ac MP):=scN
include A5 Ew Bn A9 in
theorem Pn (F:Fun K "less" "less" MP f fd):Az P w K mg base CX0 9 f fd ["f","g"] (Ag K mg MF):=by
 refine fn3 F Qz (fun ss R U h=>?_) (fun cdv A outer s H E ss R U hr h=>?_)
 .obtain⟨cs,m,ds,k,a,b,c,aa,bb,cc,A,rfl,_⟩:=h;rfl
 obtain⟨cs,m,ds,k,a,b,c,aa,bb,cc,A,rfl,r1,r2,z1,z2,hA,hA2,hl0,n1,n2,n3,inc,g0,q⟩:=h
 refine#[_,(BC (AK hr Ew (a2 (AK hr Bn (a1 (AK hr A9 (a2 (vN 0) (vN 1))))) (AK hr A5 (a2 (vK 0) (vK 1)))))),?_]
 have oc:=r1.o
 have od:=r2.o
 refine#[cs,m,ds,k,A,b+bb,c+cc,rfl,oc,od,(),(),z1.mono hA () (),z2.mono hA2 () (),(),(),(),fun ts ht hl=>?_]
 have tz:∀i,i<ts.length->Sz A (T ts i):=fun i hi=>by
  rcases ht.of i hi with⟨j,hj,e⟩|⟨j,hj,e⟩
  .rw[e];exact(z1.tm j hj).mono hA
  .rw[e];exact(z2.tm j hj).mono hA2
 have vz:∀i,i<ts.length->Sz 6000 (val cs m (T ts i))/\Sz 6000 (val ds k (T ts i)):=fun i hi=>#[(z1.va (K5 ht hi) (tz i hi)).mono (),(z2.va (K5 ht hi) (tz i hi)).mono ()]
 refine#[_,cs,m,ds,k,ts,6000,rfl,Or.inr rfl,(),∅,vz,?_]
 have gl:=B6 (cs:=cs) (m:=m) (ds:=ds) (k:=k) (ts:=ts)
 have O:=Po oc od ht inc g0
 have m0:=OC oc od ht inc
 have LL:=Rv oc od ht O z1 z2 hA hA2
 refine#[m,k,_,_,rfl,z1.m oc,z2.m od,(),?_]
 refine#[_,gcs cs m ds k ts,m-k,rfl,Or.inr rfl,LL.szd O () () (),fun _=>?_,fun no=>absurd #[O,m0] no]
 have kl:=Kf (gcs cs m ds k ts) (m-k) ((gcs cs m ds k ts).length-1)
 have n0:=O.ne
 exact q _ _ (Kn O m0) (fun t t0=>by rw[(Ii O t).1,QL oc od ht O t0]) rfl (LL.kept O) ()
variable (K1:Cal P w K mg base (CXU P w) 9 "less" ["f","g"] MF)
theorem GL:Ae ["gaps","number","last","best"] ["gaps","number","last","best"] (Ac Du):=scN
include Ax Ar gc_NOUGHT in
theorem GR (F:Fun K "comes_above" "comes_above" Du f fd):Az P w K mg base CX0 2 f fd ["gaps","number","last","best"] (Ag K mg Ee):=by
 refine fn3 F GL (fun ss R U h=>?_) (fun cdv A outer s H E ss R U hr h=>?_)
 .obtain⟨gs,i,l,B,rfl,_⟩:=h;rfl
 obtain⟨gs,i,l,B,rfl,hi,zl,zB,zg,q⟩:=h
 refine#[_,(Aa (B0 (Cy Iq (vN 1) (Ao CB (BA Ar (vN 0)) Ad)) (BC (AK hr Ax (a2 (Qs rfl gc_NOUGHT) (vN 2)))) Ap)
  (BC (AK hr Ax (a2 (vN 3) (AF (AF (vN 0) (Ao A7 (vN 1) Ad)) Ad))))),?_]
 refine Cw (fun c=>?_) (fun c=>?_)
 .rw[qAa] at c
  rw[if_neg ()] at q
  exact#[0,l,_,_,rfl,Sz.zero,zl,∅,q]
 .rw[qAa] at c
  have i1:i+1<gs.length:=()
  rw[if_pos i1] at q
  refine atR (BU (cs:=gs) (i+1) () i1) ?_
  exact#[B,_,_,_,rfl,zB,(zg _ i1).2,∅,q]
variable (Cg:Cal P w K mg base (CXU P w) 2 "comes_above" ["gaps","number","last","best"] Ee)
theorem Dp:Ae ["f","g","gaps","last","slopes","corners","best","number","gap"] ["f","g"] (Ac M3):=scN
variable (Di:mg "enumerate"=none)
include A5 Ax DE gc_NOUGHT AL Ew EO Bn A9 Cg Di in
theorem Qo (F:Fun K "left" "left" M3 f fd):Az P w K mg base CX0 9 f fd ["f","g"] (Ag K mg Mq):=by
 refine fn3 F Dp (fun ss R U h=>?_) (fun cdv A outer s H E ss R U hr h=>?_)
 .obtain⟨cs,m,ds,k,a,b,c,aq,bq,cq,A,rfl,_⟩:=h;rfl
 obtain⟨cs,m,ds,k,a,b,c,aq,bq,cq,A,rfl,r1,r2,z1,z2,hA,hA2,hl0,n1,n2,n3,q⟩:=h
 refine#[_,(Aa (AU 2 Dp (AK hr Bn (a1 (AK hr A9 (a2 (vN 0) (vN 1))))))
  (Aa (AU 3 Dp (AK hr A5 (a2 (vK 0) (vK 1))))
  (Aa (AU 4 Dp (AK hr AL (a2 (vN 2) (vN 3))))
  (Aa (AU 5 Dp (Et FP))
  (Aa (AU 6 Dp (Qs rfl gc_NOUGHT))
  (Aa (Rp (Bq PassesOwn.never rfl (Pm rfl Di (pv 2)) (Pj rfl (FV (AH (i:=7) Dp.nd rfl (Or.inl rfl)) (FV (AH (i:=8) Dp.nd rfl (Or.inl rfl)) Mw))) (CY.out (Aa (AU 6 Dp (AK hr DE (a2 (vN 6) (vK 8))))
  (Aa (Fb (Bg (DR qAx qAy qAz AB (pv 5) (Ak (PE3.out (BP (a2 (vK 8) (vN 6)))) AA))))
  (Ai (B0 (PW3.pt (Jc (Bb (AK hr Ax (a2 (vK 8) (vN 6)))) (Fz (Bb (AK hr Cg (Bc (vN 2) (Bc (vN 7) (a2 (vN 3) (vN 6))))))))) (Ai (Fb (Bg (DR qAx qAy qAz AB (pv 5) (Ak (PE3.out (BP (a2 (AK hr EO (Bc (vN 8) (a2 (AF (vN 4) (vN 7)) (vN 6)))) (vN 6)))) AA))))) Ap)))))))
  (BC (AK hr Ew (a2 (vN 5) (AK hr DE (a2 (Qs rfl gc_NOUGHT) (vN 3)))))))))))),?_]
 have oc:=r1.o
 have od:=r2.o
 refine#[cs,m,ds,k,A,b+bq,c+cq,rfl,oc,od,(),(),z1.mono hA () (),z2.mono hA2 () (),(),(),(),fun ts ht hl=>?_]
 have tz:∀i,i<ts.length->Sz A (T ts i):=fun i hi=>by
  rcases ht.of i hi with⟨j,hj,e⟩|⟨j,hj,e⟩
  .rw[e];exact(z1.tm j hj).mono hA
  .rw[e];exact(z2.tm j hj).mono hA2
 have vz:∀i,i<ts.length->Sz 1800 (val cs m (T ts i))/\Sz 1800 (val ds k (T ts i)):=fun i hi=>#[(z1.va (K5 ht hi) (tz i hi)).mono (),(z2.va (K5 ht hi) (tz i hi)).mono ()]
 obtain⟨g,hg⟩:∃g,g=b+bq+c+cq+A+3:=#[_,rfl]
 obtain⟨X,hX⟩:∃X,X=2*(b+bq+c+cq)+A+6:=#[_,rfl]
 rw[<-hg,<-hX] at q
 have gX:g<=X:=()
 have X2:X<=3000:=()
 have AX:A<=X:=()
 have gz:∀i,i<ts.length->Sz g (gap cs m ds k (T ts i)):=fun i hi=>by rw[hg];exact SA z1 z2 (K5 ht hi) (tz i hi)
 refine#[_,cs,m,ds,k,ts,1800,rfl,Or.inr rfl,(),∅,vz,?_]
 have gl:=B6 (cs:=cs) (m:=m) (ds:=ds) (k:=k) (ts:=ts)
 have gC:SzC 3000 (gcs cs m ds k ts):=fun i hi=>by
  rw[gl] at hi
  rw[(Bm hi).1,(Bm hi).2]
  exact#[(tz i hi).mono (),(gz i hi).mono ()]
 have gU:Up (gcs cs m ds k ts):=fun i hi=>by
  rw[gl] at hi
  rw[(Bm (show i<ts.length from ())).1,(Bm hi).1]
  exact ht.up i hi
 have ne:=ht.ne
 have zm:=z1.m oc
 have zk:=z2.m od
 have zL:Sz (b+bq+1) (m-k):=zm.sub zk
 refine#[m,k,_,_,rfl,zm,zk,(),?_]
 refine#[_,gcs cs m ds k ts,m-k,rfl,Or.inl rfl,by rw[gl];exact ne,by rw[gl];omega,gC.mono ∅,Df.of gC ∅,gU,?_]
 refine#[(by show 0<=1000;decide),?_]
 refine#[fun i τ=>∃(C:Cs)(B M:Rat)(y7 y8:Option S),τ=[some (.d (crv cs m)),some (.d (crv ds k)),some (.r ((gcs cs m ds k ts).map cd)),some (.d (qd (m-k))),some (.l ((NA (gcs cs m ds k ts) (m-k)).map qd)),some (.l (C.map cd)),some (.d (qd B)),y7,y8]/\(i=0->C=[]/\B=0)/\(0<i->Lft (gap cs m ds k) C (T ts (i-1)) B M (if i<ts.length then some (T ts i) else none)/\Ln (b+bq+1) g C M)/\(i=ts.length->M=mx 0 (m-k))/\C.length<=2*i/\(∀j,j<C.length->Sz X (tt C j)/\Sz g (vv C j))/\Sz g B,#[[],0,0,none,none,rfl,fun _=>#[rfl,rfl],fun z=>absurd z ∅,fun z=>absurd z (),qAS _,(fun j hj=>absurd hj (qAZ j)),Sz.zero.mono ()],?_,?_]
 .rintro i τ x hx ⟨C,B,M,y7,y8,rfl,i0,ip,_,cl,zC,zB⟩
  obtain⟨hi,rfl⟩:=Ga hx
  rw[gl] at hi
  obtain⟨e1,e2⟩:=Bm (cs:=cs) (m:=m) (ds:=ds) (k:=k) hi
  rw[e1,e2]
  have lin:=Gs (m:=m) (k:=k) oc od ht hi
  have t0:=K5 ht hi
  have es:slp (gcs cs m ds k ts) (m-k) i=sat cs m (T ts i)-sat ds k (T ts i):=lin.2
  have zs:Sz (b+bq+1) (sat cs m (T ts i)-sat ds k (T ts i)):=(z1.sl _ t0).sub (z2.sl _ t0)
  have zic:Sz g (gap cs m ds k (T ts i)-(sat cs m (T ts i)-sat ds k (T ts i))*T ts i):=(J7 z1 z2 t0).mono ()
  refine#[B,gap cs m ds k (T ts i),_,_,rfl,zB,gz i hi,(),?_]
  have zB':Sz g (mx B (gap cs m ds k (T ts i))):=by
   rcases(Jx B (gap cs m ds k (T ts i))).2.2 with z|z
   .rw[z];exact zB
   .rw[z];exact gz i hi
  have LL:Lf0 (gap cs m ds k) (C++[(T ts i,mx B (gap cs m ds k (T ts i)))]) (T ts i) (mx B (gap cs m ds k (T ts i)))/\∀M',Sz (b+bq+1) M'->Sz g (mx B (gap cs m ds k (T ts i))-M'*T ts i)->Ln (b+bq+1) g (C++[(T ts i,mx B (gap cs m ds k (T ts i)))]) M':=by
   by_cases z:i=0
   .obtain⟨rfl,rfl⟩:=i0 z
    subst z
    refine#[?_,fun M' h1 h2=>Ln.one h1 h2]
    rw[ht.t0]
    have ml:=Jx 0 (gap cs m ds k 0)
    have l0:IsL (gap cs m ds k) 0 (mx 0 (gap cs m ds k 0)):=by
     refine#[ml.1,?_,fun s s0 s1=>?_]
     .rcases ml.2.2 with z|z
      .exact .inl z
      .exact .inr #[0,qAc,qAc,z.symm]
     .have:s=0:=⋯
      rw[this]
      exact ml.2.1
    refine#[Ord.one ml.1,rfl,rfl,l0,fun M t t0 t1=>?_]
    have:t=0:=⋯
    subst this
    show IsL _ 0 (val [(0,mx 0 (gap cs m ds k 0))] M 0)
    rw[F1 (Ord.one ml.1)]
    exact l0
   .obtain⟨a',n'⟩:=ip ()
    rw[if_pos hi] at a'
    have lin0:=Gs (m:=m) (k:=k) oc od ht (show i-1<ts.length from ())
    have ei:i-1+1=i:=()
    rw[ei] at lin0
    have u:=ht.up (i-1) ()
    rw[ei] at u
    have iB:=a'.l.nxt (K5 ht (show i-1<ts.length from ())) rfl (qAp u) (fun x x1 x2=>lin0.1 x x1 (fun _=>x2))
    exact#[a'.step iB,fun M' h1 h2=>n'.snoc (a'.slope iB) h1 h2]
  obtain⟨L0,N0⟩:=LL
  rw[show(if B<gap cs m ds k (T ts i) then gap cs m ds k (T ts i) else B)=mx B (gap cs m ds k (T ts i)) from rfl]
  have gB:gap cs m ds k (T ts i)<=mx B (gap cs m ds k (T ts i)):=(Jx B _).2.1
  generalize eB:mx B (gap cs m ds k (T ts i))=B' at L0 N0 zB' gB ⊢
  have zC':∀j,j<(C++[(T ts i,B')]).length->Sz X (tt (C++[(T ts i,B')]) j)/\Sz g (vv (C++[(T ts i,B')]) j):=KZ zC ((tz i hi).mono AX) zB'
  have flat:Ln (b+bq+1) g (C++[(T ts i,B')]) 0:=N0 0 (Sz.zero.mono ()) (by rw[show B'-0*T ts i=B' from ⋯];exact zB')
  have hnx:∀u,(if i+1<ts.length then some (T ts (i+1)) else none)=some u->T ts i<u:=fun u hu=>by
   by_cases i1:i+1<ts.length
   .rw[if_pos i1] at hu
    cases hu
    exact ht.up i i1
   .rw[if_neg i1] at hu
    cases hu
  obtain⟨t1,t2,t3⟩:=L0.turn (s:=slp (gcs cs m ds k ts) (m-k) i) rfl hnx (fun x x1 x2=>lin.1 x x1 fun i1=>x2 _ (if_pos i1))
  have hs:i+1=ts.length->slp (gcs cs m ds k ts) (m-k) i=m-k:=fun e=>AE (by rw[gl];omega)
  have lC:(C++[(T ts i,B')]).length<=2*(i+1):=by rw[qAn];show C.length+1<=_;omega
  refine#[(by show 2<=1000;decide),?_]
  refine#[by rw[qAa];omega,?_]
  refine#[gap cs m ds k (T ts i),B',_,_,rfl,gz i hi,zB',(),?_]
  refine Cw (fun c=>?_) (fun c=>?_)
  .refine#[gcs cs m ds k ts,i,m-k,B',rfl,by rw[gl];exact hi,zL.mono (),zB'.mono (),gC.mono ∅,?_]
   have hAb:(if i+1<(gcs cs m ds k ts).length then decide (B'<vv (gcs cs m ds k ts) (i+1)) else decide (0<m-k))=true ↔ Ab (gap cs m ds k) B' (slp (gcs cs m ds k ts) (m-k) i) (if i+1<ts.length then some (T ts (i+1)) else none):=by
    by_cases i1:i+1<ts.length
    .rw[if_pos (show i+1<(gcs cs m ds k ts).length by rw[gl];exact i1),if_pos i1,(Bm i1).2,decide_eq_true_iff]
     exact Iff.rfl
    .rw[if_neg (show ¬i+1<(gcs cs m ds k ts).length by rw[gl];exact i1),if_neg i1,hs (),decide_eq_true_iff]
     exact Iff.rfl
   generalize (if i+1<(gcs cs m ds k ts).length then decide (B'<vv (gcs cs m ds k ts) (i+1)) else decide (0<m-k))=bb at hAb ⊢
   rw[show bb=decide (bb=true) by cases bb<;>rfl]
   refine Cw (fun e=>?_) (fun ne=>?_)
   rotate_left
   .have t2:=t2 c (fun z=>ne (hAb.mpr z))
    refine#[_,_,_,_,_,by rw[qAB];rfl,fun z=>absurd z (),fun _=>#[t2,flat],fun e=>?_,lC,zC',zB']
    have nb:¬Ab (gap cs m ds k) B' (slp (gcs cs m ds k ts) (m-k) i) (if i+1<ts.length then some (T ts (i+1)) else none):=fun z=>ne (hAb.mpr z)
    rw[if_neg (),hs e] at nb
    have nb:¬0<m-k:=nb
    unfold mx
    rw[if_neg nb]
   .obtain⟨s0,t3⟩:=t3 c (hAb.mp e)
    rw[es] at s0 t3
    have sne:sat cs m (T ts i)-sat ds k (T ts i)≠0:=fun z=>by rw[z] at s0;exact absurd s0 ∅
    have xz:Sz X (T ts i+(B'-gap cs m ds k (T ts i))/(sat cs m (T ts i)-sat ds k (T ts i))):=(Nq z1 z2 t0 zB' sne).mono ()
    refine atR (PU (cs:=gcs cs m ds k ts) (m:=m-k) i rfl (by rw[gl];exact hi)) ?_
    rw[es]
    refine#[T ts i,gap cs m ds k (T ts i),_,B',X,X,X,_,rfl,(tz i hi).mono AX,(gz i hi).mono gX,zB'.mono gX,zs,sne,(),?_]
    have N1:Ln (b+bq+1) g (C++[(T ts i,B')]++[(T ts i+(B'-gap cs m ds k (T ts i))/(sat cs m (T ts i)-sat ds k (T ts i)),B')]) (sat cs m (T ts i)-sat ds k (T ts i)):=by
     refine flat.snoc ?_ zs ?_
     .have ln:(C++[(T ts i,B')]).length-1=C.length:=by rw[AR];omega
      rw[ln,K8]
      show(B'-B')/_=0
      rw[show B'-B'=0 from ⋯,Rat.div_def,qBC]
     .show Sz g (B'-(sat cs m (T ts i)-sat ds k (T ts i))*(T ts i+(B'-gap cs m ds k (T ts i))/(sat cs m (T ts i)-sat ds k (T ts i))))
      generalize sat cs m (T ts i)-sat ds k (T ts i)=s at *
      generalize gap cs m ds k (T ts i)=G at *
      rw[show B'-s*(T ts i+(B'-G)/s)=G-s*T ts i from ⋯]
      exact zic
    generalize T ts i+(B'-gap cs m ds k (T ts i))/(sat cs m (T ts i)-sat ds k (T ts i))=Y at xz t3 N1 ⊢
    refine#[(by show 2<=1000;decide),(by rw[qAn,qAa];show C.length+1<16000000;omega),?_]
    refine#[_,_,_,_,_,by rw[qAB,qAB];rfl,fun z=>absurd z (),fun _=>#[t3,N1],fun e=>?_,?_,KZ zC' xz zB',zB']
    .rw[<-es,hs e] at s0 ⊢
     unfold mx
     rw[if_pos s0]
    .rw[qAn,qAn]
     show C.length+1+1<=_
     omega
  .have t1:=t1 c
   refine iF ?_
   have N1:Ln (b+bq+1) g (C++[(T ts i,B')]) (mx 0 (slp (gcs cs m ds k ts) (m-k) i)):=by
    rcases(Jx 0 (slp (gcs cs m ds k ts) (m-k) i)).2.2 with z|z
    .rw[z];exact flat
    .rw[z,es]
     have eG:B'=gap cs m ds k (T ts i):=⋯
     exact N0 _ zs (by rw[eG];exact zic)
   exact#[_,_,_,_,_,by rw[qAB];rfl,fun z=>absurd z (),fun _=>#[t1,N1],fun e=>by rw[hs e],lC,zC',zB']
 rintro τ ⟨C,B,M,y7,y8,rfl,i0,ip,iM,cl,zC,zB⟩
 have iN:(List.map cd (gcs cs m ds k ts)).length=ts.length:=by rw[qAa,gl]
 rw[iN] at ip iM cl
 obtain⟨a',n'⟩:=ip ne
 rw[if_neg (qAW _)] at a'
 have eM:=iM rfl
 subst eM
 have zM:Sz 3000 (mx 0 (m-k)):=by
  rcases(Jx 0 (m-k)).2.2 with z|z
  .rw[z];exact Sz.zero.mono ∅
  .rw[z];exact zL.mono ()
 refine#[0,m-k,_,_,rfl,Sz.zero,zL,(),?_]
 refine#[_,C,mx 0 (m-k),rfl,Or.inl rfl,?_,fun _=>?_,fun no=>absurd #[a'.o,a'.M0] no]
 .exact SzK.d (n:=3000) #[(),fun j hj=>#[(zC j hj).1.mono X2,(zC j hj).2.mono ()],zM] ∅
 have LC:LS X (b+bq+1) g C (mx 0 (m-k)):=n'.ls a'.o (fun j hj=>(zC j hj).1)
 refine q _ _ (Kn a'.o a'.M0) a'.M0 (fun t t0=>?_) (LC.kept a'.o) ?_
 .rw[(Ii a'.o t).1]
  exact a'.v t t0 (fun u hu=>by cases hu)
 .have:=Kf C (mx 0 (m-k)) (C.length-1)
  have:=a'.o.ne
  omega
variable (J8:Cal P w K mg base (CXU P w) 9 "left" ["f","g"] Mq)
theorem Mm:Ae ["coming","offer"] ["coming","offer"] (Ac Hu):=scN
include J8 in
theorem Mf (F:Fun K "unused" "unused" Hu f fd):Az P w K mg base CX0 10 f fd ["coming","offer"] (Ag K mg IC):=by
 refine fn3 F Mm (fun ss R U h=>?_) (fun cdv A outer s H E ss R U hr h=>?_)
 .obtain⟨cs,m,ds,k,a,b,c,aq,bq,cq,A,rfl,_⟩:=h;rfl
 obtain⟨cs,m,ds,k,a,b,c,aq,bq,cq,A,rfl,h1,h2,h3,h4,h5,h6,h7,h8,h9,h10,h11⟩:=h
 refine#[_,(BC (AK hr J8 (a2 (vN 1) (vN 0)))),?_]
 exact#[cs,m,ds,k,a,b,c,aq,bq,cq,A,rfl,h1,h2,h3,h4,h5,h6,h7,h8,h9,h10,h11]
variable (Dn:Cal P w K mg base (CXU P w) 10 "unused" ["coming","offer"] IC)
theorem MN:Ae ["coming","offer"] ["coming","offer"] (Ac Hx):=scN
include K1 Dn in
theorem MZ (F:Fun K "served" "served" Hx f fd):Az P w K mg base CX0 11 f fd ["coming","offer"] (Ag K mg Iy):=by
 refine fn3 F MN (fun ss R U h=>?_) (fun cdv A outer s H E ss R U hr h=>?_)
 .obtain⟨cs,m,ds,k,a,b,c,aq,bq,cq,A,rfl,_⟩:=h;rfl
 obtain⟨cs,m,ds,k,a,b,c,aq,bq,cq,A,rfl,r1,r2,z1,z2,hA,hA2,hl0,hl1,n1,n2,n3,n4,q⟩:=h
 refine#[_,(BC (AK hr K1 (a2 (vN 1) (AK hr Dn (a2 (vN 0) (vN 1)))))),?_]
 refine#[cs,m,ds,k,a,b,c,aq,bq,cq,A,rfl,r1,r2,z1,z2,hA,hA2,(),(),(),(),fun L K cL k0 vL zL lL=>?_]
 have rL:Ih L K:=#[#[cL.ne,cL.t0,cL.v0,cL.up,cL.vu],k0]
 have cm:∀x y,0<=x->x<=y->val cs m x<=val cs m y:=fun x y x0 xy=>EH r1 x0 xy
 have am:∀x y,0<=x->x<=y->val ds k x<=val ds k y:=fun x y x0 xy=>EH r2 x0 xy
 refine#[cs,m,L,K,a,b,c,_,_,_,2*(b+bq+c+cq)+A+6,rfl,r1,rL,z1,zL,(),qAd _,(),(),(),(),fun x y x0 xy=>Oe cm am vL x0 xy,?_,fun C M cC vC eM zC lC=>?_]
 .have c0:=F1 (m:=m) r1.o
  have a0:=F1 (m:=k) r2.o
  refine LF (C:=val cs m) (A:=val ds k) (L:=val L K) (by rw[c0];exact r1.o.v0) (by rw[a0];exact r2.o.v0) (vL 0 qAc)
 .exact q L K C M cL k0 vL cC cC.m0 eM vC zC lC
variable (FX:Cal P w K mg base (CXU P w) 11 "served" ["coming","offer"] Iy)
theorem EX:Ae ["ways","streams","houses","way"] ["ways","streams","houses"] (Ac DT):=scN
variable (ec_NoWay:ExC K "NoWay" K_NoWay)
variable (m_NoWay:mg "NoWay"=some (.ref K_NoWay))
include BJ Ar ec_NoWay m_NoWay in
theorem H8 (F:Fun K "check_ways" "check_ways" DT f fd):Az P w K mg base (CXU P w) 2 f fd ["ways","streams","houses"] (Ag K mg ES):=by
 refine fnU F EX (fun ss R U h=>?_) (fun cdv A outer s H E ss R U hr h xo=>?_)
 .obtain⟨s,ws,n,h,rfl,_⟩:=h;rfl
 obtain⟨s,ws,n,h,rfl,hs,hw,q1,q2⟩:=h
 refine#[_,(Aa (B0 (Cy NU (BA Ar (vN 0)) (vN 1)) (Ai (CV xo rfl GO rfl ec_NoWay m_NoWay)) Ap)
  (Ai (IH (Bq PassesOwn.leaving rfl (C4 (pv 0)) (AH (i:=3) EX.nd rfl (Or.inl rfl)) (CY.out (To (B0 (PW3.pt (Hk (w_not (Bb (HQ xo hr BJ (a1 (vK 3))))) (D8 (w_not (Bb (HQ xo hr BJ (a1 (vK 3)))))))) (Ai (CV xo rfl GO rfl ec_NoWay m_NoWay)) Ap)
  (Ai (B0 (PW3.pt (Hk (Cy LB (vK 3) Ad) (Hk (Cy Vh (vK 3) (vN 2)) (D8 (Cy S8 (vK 3) (vK 3)))))) (Ai (CV xo rfl GO rfl ec_NoWay m_NoWay)) Ap)))))))),?_]
 rcases hs with rfl|rfl
 all_goals
  refine IY (fun c=>q2 fun z=>c z.1) (fun hn=>?_)
  refine#[fun i τ=>∃y3:Option S,τ=[some (_:S),some (.d (.int n)),some (.d (.int h)),y3]/\∀j x,j<i->ws[j]? = some x->wOk h x,#[_,rfl,fun j x z=>absurd z (qAZ j)],?_,?_]
  .rintro i τ x hx ⟨y3,rfl,ok⟩
   have mx:=qAo hx
   obtain⟨y,z,rfl,py,pz⟩:=hw x mx
   refine#[isW y=true/\isW z=true,#[y,rfl,py,?_],fun#[hy,hz]=>?_]
   .cases ey:isW y with
    |false=>exact q2 fun#[_,w]=>by obtain⟨a,b,e,_⟩:=w _ mx;cases e;cases ey
    |true =>
     refine#[z,rfl,pz,?_]
     cases ez:isW z with
     |false=>exact q2 fun#[_,w]=>by obtain⟨a,b,e,_⟩:=w _ mx;cases e;cases ez
     |true=>exact#[rfl,rfl,rfl]
   .obtain⟨a,rfl⟩:=MA hy
    obtain⟨b,rfl⟩:=MA hz
    have no:¬(0<=a/\a<=b/\b<h)->U "NoWay":=fun c=>q2 fun#[_,w]=>by obtain⟨a',b',e,k⟩:=w _ mx;cases e;exact c k
    refine Cw (fun c=>no ()) (fun c1=>Cw (fun c=>no ()) (fun c2=>Cw (fun c=>no ()) (fun c3=>?_)))
    refine#[_,rfl,fun j x hj hjx=>?_]
    by_cases e:j=i
    .rw[e,hx] at hjx
     cases hjx
     exact#[a,b,rfl,(),(),()]
    .exact ok j x () hjx
  .rintro τ ⟨y3,rfl,ok⟩
   exact q1 #[hn,fun x hx=>by
    obtain⟨j,hj,e⟩:=qCb.mp hx
    exact ok j x hj (by rw[qAb hj,e])]
variable (CO:Cal P w K mg base (CXU P w) 2 "check_ways" ["ways","streams","houses"] ES)
theorem D9:Ae ["offers","comings","ways","rests","told","coming","way","leavings","here","number","rest"] ["offers","comings","ways"] (Ac Pu):=scN
variable (Cz:mg "list"=none)
variable (Oz:mg "zip"=none)
include Ar Am Dn FX CO Cz Oz in
theorem RX (F:Fun K "run" "run" Pu f fd):Az P w K mg base (CXU P w) 12 f fd ["offers","comings","ways"] (Ag K mg Pd):=by
 refine fnU F D9 (fun ss R U h=>?_) (fun cdv A outer s H E ss R U hr h xo=>?_)
 .obtain⟨t,hs,cs,ws,rfl,_⟩:=h;rfl
 obtain⟨t,hs,cs,ws,rfl,eL,hw,ok,lim,gh,gc,c12,h12,q⟩:=h
 refine#[_,(Aa (Kw (HQ xo hr CO (Bc (vN 2) (a2 (BA Ar (vN 1)) (BA Ar (vN 0))))))
  (Aa (AU 3 D9 (Kg (vN 0) rfl Cz))
  (Aa (AU 4 D9 (Et FP))
  (Aa (Sm (Bq PassesOwn.leaving rfl (RV rfl Oz (Ak (pv 1) (Ak (pv 2) AA))) (Pj rfl (FV (AH (i:=5) D9.nd rfl (Or.inl rfl)) (FV (AH (i:=6) D9.nd rfl (Or.inl rfl)) Mw))) (CY.out (Aa (AU 7 D9 (Et FP))
  (Aa (AU 8 D9 (vN 5))
  (Aa (GZ (Bq PassesOwn.leaving rfl (BX rfl Am (PA3.out (a2 (vK 6) (Ao A7 (vK 6) Ad)))) (AH (i:=9) D9.nd rfl (Or.inl rfl)) (CY.out (Aa (AU 10 D9 (AF (vN 3) (vN 9)))
  (Aa (RT (Pk (PE3.out (HQ xo hr Dn (a2 (vN 8) (vN 10)))) (OM (pv 3) (PE3.out (vN 9)) KQ)))
  (Aa (AU 8 D9 (HQ xo hr FX (a2 (vN 8) (vN 10))))
  (Ai (Fb (Bg (DR qAx qAy qAz AB (pv 7) (Ak (PE3.out (vN 8)) AA)))))))))))
  (Pc 7 (Ai (Fb (Bg (DR qAx qAy qAz AB (pv 4) (Ak (PE3.out (vN 7)) AA))))))))))))
  (Ai (E4 (pv 4))))))),?_]
 have g0:=ok.g0
 have g6:=ok.g6
 refine#[_,ws.map wD,_,_,rfl,Or.inl rfl,fun x hx=>?_,fun _=>?_,fun no=>absurd #[by rw[qAa,qAa,eL],fun x hx=>?_] no]
 .obtain⟨w,_,rfl⟩:=qAL.mp hx
  exact#[_,_,rfl,rfl,rfl]
 rotate_left
 .obtain⟨w,hw',rfl⟩:=qAL.mp hx
  obtain⟨h1,h2⟩:=hw w hw'
  rw[qAa]
  exact#[_,_,rfl,(),(),()]
 refine#[(by show 0<=1000;decide),cs.map crP,ws.map wD,Or.inl rfl,Or.inl rfl,fun n τ=>∃(r a:Nat->Nat->Cq)(y5 y6 y7 y8 y9 ya:Option S),τ=[some (.r (hs.map crP)),some (.r (cs.map crP)),some (.r (ws.map wD)),some (.l ((List.range hs.length).map fun h=>crP (r n h))),some (.l ((List.range n).map fun k=>lvD a k (ws.getD k (0,0)))),y5,y6,y7,y8,y9,ya]/\n<=cs.length/\Run t hs cs ws n r a,#[_,_,none,none,none,none,none,none,by rw[<-Mi];rfl,qAS _,Run.zero gh],?_,?_]
 .rintro n τ x y hx hy ⟨r,a,y5,y6,y7,y8,y9,ya,rfl,nl,ru⟩
  obtain⟨c,hc,rfl⟩:=Cd hx
  obtain⟨w,hv,rfl⟩:=Cd hy
  have nc:n<cs.length:=(qAf.mp hc).1
  obtain⟨w1,w2⟩:=hw w (qAo hv)
  refine#[(by show 0<=1000;decide),#[(),(),(),()],?_]
  refine#[fun i τ=>∃(R' A':Nat->Cq)(y9 ya:Option S),τ=[some (.r (hs.map crP)),some (.r (cs.map crP)),some (.r (ws.map wD)),some (.l ((List.range hs.length).map fun h=>crP (if w.1<=h/\h<w.1+i then R' h else r n h))),some (.l ((List.range n).map fun k=>lvD a k (ws.getD k (0,0)))),some (.d (crP c)),some (.d (wD w)),some (.l ((List.range i).map fun j=>crP (A' (w.1+j+1)))),some (.d (crP (A' (w.1+i)))),y9,ya]/\A' w.1=c/\(∀h,w.1<=h->h<=w.1+i->AW t.g (t.A n h) (A' h))/\∀h,w.1<=h->h<w.1+i->Stp (r n h) (A' h) (R' h) (A' (h+1)),#[r n,fun _=>c,_,_,by simp only[ite_self];rfl,rfl,fun h h1 h2=>?_,fun h h1 h2=>absurd h2 ()],?_,?_]
  .exact(gc n c hc).mono (ok.a n nc h ()).2
  .rintro i τ hi ⟨R',A',y9,ya,rfl,e0,za,st⟩
   have hi:w.1+i<hs.length:=()
   have ei:(w.1:Int)+(i:Int)*1=((w.1+i:Nat):Int):=()
   refine atR (Ir (w.1+i) ei hi) ?_
   rw[if_neg ()]
   have zr:=ru.zr n (w.1+i) (qAd _) hi
   have zA:=za (w.1+i) () (qAd _)
   obtain⟨l1,l2,l3,l4,l5,l6,l7⟩:=lim n nc (w.1+i) hi
   have n1:=zr.2
   have n2:=zA.2
   refine#[(r n (w.1+i)).1,(r n (w.1+i)).2,(A' (w.1+i)).1,(A' (w.1+i)).2,_,_,_,_,_,_,600,rfl,zr.1.c.rise,zA.1.c.rise,zr.ls g0 g6,zA.ls g0 g6,l1,l2,(),(),(),(),fun L K cL K0 vL _ _=>#[w.1+i,Sg ei (by rw[qAa,qAt];exact hi),?_]]
   refine#[(r n (w.1+i)).1,(r n (w.1+i)).2,(A' (w.1+i)).1,(A' (w.1+i)).2,_,_,_,_,_,_,600,rfl,zr.1.c.rise,zA.1.c.rise,zr.ls g0 g6,zA.ls g0 g6,l1,l2,(),(),l5,qAd _,l3,l4,fun L2 K2 C M cL2 k02 vL2 cC m0 eM vC zC lC=>?_]
   have eq:∀x,0<=x->val L2 K2 x=val L K x:=fun x x0=>(vL2 x x0).uniq (vL x x0)
   have eLL:=(JS cL2 cL eq).1
   have S0:Stp (r n (w.1+i)) (A' (w.1+i)) (L,K) (C,M):=#[cL,cC,vL,fun x x0=>by rw[vC x x0,eq x x0]]
   refine#[by rw[qAa,qAt];omega,?_]
   have h1:((List.range hs.length).map fun h=>crP (if w.1<=h/\h<w.1+i then R' h else r n h)).set (w.1+i) (crP (L,K))=(List.range hs.length).map fun h=>crP (if w.1<=h/\h<w.1+(i+1) then OH R' (w.1+i) (L,K) h else r n h):=LI hi (by rw[if_pos (),G2]) (fun j hj=>by
    by_cases c:w.1<=j/\j<w.1+i
    .rw[if_pos c,if_pos (),Fy hj]
    .rw[if_neg c,if_neg ()])
   have h2:(List.range i).map (fun j=>crP (A' (w.1+j+1)))++[crP (C,M)]=(List.range (i+1)).map fun j=>crP (OH A' (w.1+i+1) (C,M) (w.1+j+1)):=by
    rw[<-J6 (f:=fun j=>crP (OH A' (w.1+i+1) (C,M) (w.1+j+1))) (x:=crP (C,M)) (by rw[G2])]
    congr 1
    refine qA7 fun j hj=>?_
    rw[qAN] at hj
    rw[Fy ()]
   have h3:OH A' (w.1+i+1) (C,M) (w.1+(i+1))=(C,M):=G2
   refine#[OH R' (w.1+i) (L,K),OH A' (w.1+i+1) (C,M),I ((w.1:Int)+(i:Int)*1),some (.d (crP (r n (w.1+i)))),by rw[<-h1,<-h2,h3];rfl,by rw[Fy ()];exact e0,fun h h1 h2=>?_,fun h h1 h2=>?_]
   .by_cases e:h=w.1+i+1
    .subst e
     rw[G2]
     exact(S0.aw_ zr zA (by rw[<-eLL];exact lC)).mono (ok.a n nc (w.1+i) hi).1
    .rw[Fy e]
     exact za h h1 ()
   .by_cases e:h=w.1+i
    .subst e
     rw[Fy (show w.1+i≠w.1+i+1 from ()),G2,G2]
     exact S0
    .rw[Fy (show h≠w.1+i+1 from ()),Fy e,Fy (show h+1≠w.1+i+1 from ())]
     exact st h h1 ()
  .rintro τ ⟨R',A',y9,ya,rfl,e0,za,st⟩
   have ed:ws.getD n (0,0)=w:=by rw[qAg,hv];rfl
   have N:=ru.next (okS ok nc) hv hc w1 w2 e0 (fun h h1 h2=>za h h1 ()) (fun h h1 h2=>st h h1 ())
   have ei:((w.2:Int)+1-(w.1:Int)).toNat=w.2-w.1+1:=()
   rw[ei]
   have h1:(List.range hs.length).map (fun h=>crP (if w.1<=h/\h<w.1+(w.2-w.1+1) then R' h else r n h))=(List.range hs.length).map fun h=>crP ((fun k h=>if k=n+1 then (if w.1<=h/\h<=w.2 then R' h else r n h) else r k h) (n+1) h):=by
    refine qA7 fun h _=>?_
    simp only[if_pos]
    by_cases c:w.1<=h/\h<=w.2
    .rw[if_pos c,if_pos ()]
    .rw[if_neg c,if_neg ()]
   have h2:(List.range n).map (fun k=>lvD a k (ws.getD k (0,0)))++[.lst ((List.range (w.2-w.1+1)).map fun j=>crP (A' (w.1+j+1)))]=(List.range (n+1)).map fun k=>lvD (fun k h=>if k=n then A' h else a k h) k (ws.getD k (0,0)):=by
    rw[<-J6 (f:=fun k=>lvD (fun k h=>if k=n then A' h else a k h) k (ws.getD k (0,0))) (x:=.lst ((List.range (w.2-w.1+1)).map fun j=>crP (A' (w.1+j+1)))) (by rw[ed];unfold lvD;simp only[if_pos])]
    congr 1
    refine qA7 fun k hk=>?_
    rw[qAN] at hk
    unfold lvD
    simp only[if_neg (show ¬k=n from ())]
   refine#[by rw[qAa,qAt];omega,_,_,some (.d (crP c)),some (.d (wD w)),some (.d (.lst ((List.range (w.2-w.1+1)).map fun j=>crP (A' (w.1+j+1))))),some (.d (crP (A' (w.1+(w.2-w.1+1))))),y9,ya,by rw[<-h1,<-h2];rfl,nc,N]
 .rintro τ ⟨r,a,y5,y6,y7,y8,y9,ya,rfl,nl,ru⟩
  rw[qAa,qAa,eL,Nat.min_self] at ru ⊢
  exact q r a ru
variable (MR:Cal P w K mg base (CXU P w) 12 "run" ["offers","comings","ways"] Pd)
theorem Ge:Ae ["_law_script","_law_k"] ["_law_script","_law_k"] (Ac CU):=scN
include Ar in
theorem Gq (F:Fun K "_law_cell_at" "_law_cell_at" CU f fd):Az P w K mg base CX0 1 f fd ["_law_script","_law_k"] (Ag K mg DB):=by
 refine fn3 F Ge (fun ss R U h=>?_) (fun cdv A outer s H E ss R U hr h=>?_)
 .obtain⟨ns,k,rfl,_⟩:=h;rfl
 obtain⟨ns,k,rfl,k0,k1,q⟩:=h
 refine#[_,(Aa (B0 (Cy LB (vN 1) (BA Ar (vN 0))) (BC (AF (vN 0) (vN 1))) Ap)
  (BC (Ao A7 (Ao A6 Ad (vN 1)) Ad))),?_]
 unfold cl at q
 refine Cw (fun c=>?_) (fun c=>?_)
 .rw[qAa] at c
  rw[if_pos c] at q
  refine atR (EW (ms:=ns) k.toNat () ()) ?_
  rw[show((k.toNat:Nat):Int)=k from ()]
  exact q
 .rw[qAa] at c
  rw[if_neg c] at q
  exact#[Bd (m:=10) (n:=20) ∅ () ∅,q]
variable (Al:Cal P w K mg base (CXU P w) 1 "_law_cell_at" ["_law_script","_law_k"] DB)
theorem BM:Ae ["_law_top","_law_bottom","_law_one","_law_other","_law_rest"] ["_law_top","_law_bottom"] (Ac Fh):=scN
include IB in
theorem Jt (F:Fun K "_law_low" "_law_low" Fh f fd):Az P w K mg base CX0 1 f fd ["_law_top","_law_bottom"] (Ag K mg Gx):=by
 refine fn3 F BM (fun ss R U h=>?_) (fun cdv A outer s H E ss R U hr h=>?_)
 .obtain⟨a,b,rfl,_⟩:=h;rfl
 obtain⟨a,b,rfl,hb,h1,h2,q⟩:=h
 refine#[_,(Aa (AU 2 BM (HB P9 rfl IB qB6 (a1 (vN 0))))
  (Aa (AU 3 BM (vN 1))
  (Aa (Fu PassesOwn.never (Cy S8 (vN 3) Ad) (Aa (AU 4 BM (Ao BQ (vN 2) (vN 3)))
  (Aa (AU 2 BM (vN 3))
  (Ai (AU 3 BM (vN 4))))))
  (BC (BP (a2 (Ao Bi (vN 0) (vN 2)) (Ao Bi (vN 1) (vN 2)))))))),?_]
 have hb0:b≠0:=by clear h1 h2;omega
 have hp:=F5 (a:=a) hb0
 have hc:=Lu (a:=a) hb0
 have e:cm a b=g a b:=if_neg (by clear h1 h2;omega)
 rw[e] at hp hc
 have ga:=RL a b
 rw[if_neg (show ¬b<0 by clear h1 h2;omega)] at ga
 refine#[fun m τ=>∃x y z,τ=[I a,I b,I x,I y,z]/\0<=x/\0<=y/\g x y=g a b/\m=y.toNat,#[_,_,_,_,rfl,Ma a,Int.le_of_lt hb,ga,rfl],?_]
 rintro m τ ⟨x,y,z,rfl,k1,k2,k3,rfl⟩
 refine Cw (fun c=>?_) (fun c=>?_)
 .clear h1 h2
  have c:0<y:=c
  refine#[(),(x.fmod y).toNat,?_,_,_,_,rfl,k2,?_,?_,rfl]
  .have:=qCk x (show 0<y from ())
   omega
  .exact qBY x ()
  .rw[<-k3,qCp x k2]
   exact O3 ()
 .have c:y=0:=by have:¬0<y:=c;omega
  subst c
  rw[RY k1] at k3
  subst k3
  refine#[#[hc,Tc h1],#[hc,Tc h2],(by show 2<=1000;decide),?_]
  show R (.d (.tup [.int (a.fdiv (g a b)),.int (b.fdiv (g a b))]))
  rw[hp.1,hp.2]
  exact q
variable (AD:Cal P w K mg base (CXU P w) 1 "_law_low" ["_law_top","_law_bottom"] Gx)
theorem Jr:Ae ["_law_one","_law_other"] ["_law_one","_law_other"] (Ac Fc):=scN
theorem Jk (F:Fun K "_law_add" "_law_add" Fc f fd):Az P w K mg base CX0 1 f fd ["_law_one","_law_other"] (Ag K mg Gn):=by
 refine fn3 F Jr (fun ss R U h=>?_) (fun cdv A outer s H E ss R U hr h=>?_)
 .obtain⟨a,b,c,d,rfl,_⟩:=h;rfl
 obtain⟨a,b,c,d,rfl,⟨h1,h2,h3,h4⟩,q⟩:=h
 refine#[_,(BC (BP (a2 (Ao A7 (Ao A6 (vK 0) (vK 1)) (Ao A6 (vK 1) (vK 0))) (Ao A6 (vK 0) (vK 1))))),?_]
 exact#[Bd h1 h4 ∅,Bd h3 h2 ∅,Bd h2 h4 ∅,(by show 2<=1000;decide),q]
variable (BN:Cal P w K mg base (CXU P w) 1 "_law_add" ["_law_one","_law_other"] Gn)
theorem IW:Ae ["_law_one","_law_other"] ["_law_one","_law_other"] (Ac Es):=scN
theorem Ij (F:Fun K "_law_take" "_law_take" Es f fd):Az P w K mg base CX0 1 f fd ["_law_one","_law_other"] (Ag K mg Fx):=by
 refine fn3 F IW (fun ss R U h=>?_) (fun cdv A outer s H E ss R U hr h=>?_)
 .obtain⟨a,b,c,d,rfl,_⟩:=h;rfl
 obtain⟨a,b,c,d,rfl,⟨h1,h2,h3,h4⟩,q⟩:=h
 refine#[_,(BC (BP (a2 (Ao CB (Ao A6 (vK 0) (vK 1)) (Ao A6 (vK 1) (vK 0))) (Ao A6 (vK 0) (vK 1))))),?_]
 exact#[Bd h1 h4 ∅,Bd h3 h2 ∅,Bd h2 h4 ∅,(by show 2<=1000;decide),q]
variable (Aw:Cal P w K mg base (CXU P w) 1 "_law_take" ["_law_one","_law_other"] Fx)
theorem HW:Ae ["_law_one","_law_other"] ["_law_one","_law_other"] (Ac DV):=scN
theorem Hl (F:Fun K "_law_up_to" "_law_up_to" DV f fd):Az P w K mg base CX0 1 f fd ["_law_one","_law_other"] (Ag K mg E5):=by
 refine fn3 F HW (fun ss R U h=>?_) (fun cdv A outer s H E ss R U hr h=>?_)
 .obtain⟨a,b,c,d,rfl,_⟩:=h;rfl
 obtain⟨a,b,c,d,rfl,⟨h1,h2,h3,h4⟩,q⟩:=h
 refine#[_,(BC (Lq Ut (Ao A6 (vK 0) (vK 1)) (Ao A6 (vK 1) (vK 0)) (Ej _))),?_]
 exact#[Bd h1 h4 ∅,Bd h3 h2 ∅,q]
variable (Aq:Cal P w K mg base (CXU P w) 1 "_law_up_to" ["_law_one","_law_other"] E5)
theorem De:Ae ["_law_f","_law_k","_law_high","_law_wide"] ["_law_f","_law_k"] (Ac DU):=scN
include Ar Aw in
theorem Hi (F:Fun K "_law_slope" "_law_slope" DU f fd):Az P w K mg base CX0 2 f fd ["_law_f","_law_k"] (Ag K mg EF):=by
 refine fn3 F De (fun ss R U h=>?_) (fun cdv A outer s H E ss R U hr h=>?_)
 .obtain⟨cs,m,k,j,n,rfl,_⟩:=h;rfl
 obtain⟨cs,m,k,j,n,rfl,rfl,jl,up,hn,zc,zm,q⟩:=h
 refine#[_,(Aa (B0 (Cy Iq (Ao A7 (vN 1) Ad) (BA Ar (vK 0))) (BC (vK 0)) Ap)
  (Aa (AU 2 De (AK hr Aw (a2 (AF (AF (vK 0) (Ao A7 (vN 1) Ad)) Ad) (AF (AF (vK 0) (vN 1)) Ad))))
  (Aa (AU 3 De (AK hr Aw (a2 (AF (AF (vK 0) (Ao A7 (vN 1) Ad)) Ad) (AF (AF (vK 0) (vN 1)) Ad))))
  (BC (BP (a2 (Ao A6 (vK 2) (vK 3)) (Ao A6 (vK 2) (vK 3)))))))),?_]
 refine Cw (fun c=>?_) (fun c=>?_)
 .rw[qAa] at c
  have e:slp cs m j=m:=AE ()
  rw[e] at q
  exact q _ _ ((Wq.of zm).mono ())
 .rw[qAa] at c
  have j1:j+1<cs.length:=()
  have b1:=BU (cs:=cs) (i:=(j:Int)+1) (j+1) () j1
  have b0:=BU (cs:=cs) (i:=(j:Int)) j rfl jl
  have z1:=zc _ j1
  have z0:=zc _ jl
  refine atR b1 ?_
  refine atR b0 ?_
  refine#[_,_,_,_,rfl,l4 z1.2 z0.2 (),?_]
  refine atR b1 ?_
  refine atR b0 ?_
  refine#[_,_,_,_,rfl,l4 z1.1 z0.1 (),?_]
  have w1:=(Wq.of z1.2).minus (Wq.of z0.2)
  have w2:=(Wq.of z1.1).minus (Wq.of z0.1)
  refine#[Bd w1.la w2.lb (),Bd w1.lb w2.la (),(by show 2<=1000;decide),?_]
  rw[CK j1] at q
  exact q _ _ ((w1.div w2 (OA (up j j1))).mono ())
variable (A8:Cal P w K mg base (CXU P w) 2 "_law_slope" ["_law_f","_law_k"] EF)
theorem Dc:Ae ["_law_f","_law_t","_law_k","_law_slope_here","_law_gone"] ["_law_f","_law_t"] (Ac Gf):=scN
include Ar BN Aw Aq A8 in
theorem Lp (F:Fun K "_law_at" "_law_at" Gf f fd):Az P w K mg base CX0 3 f fd ["_law_f","_law_t"] (Ag K mg G0):=by
 refine fn3 F Dc (fun ss R U h=>?_) (fun cdv A outer s H E ss R U hr h=>?_)
 .obtain⟨cs,m,t,tn,td,n,k,rfl,_⟩:=h;rfl
 obtain⟨cs,m,t,tn,td,n,k,rfl,oc,lc,hn,zc,zm,wt,t0,q⟩:=h
 refine#[_,(Aa (AU 2 Dc Ad)
  (Aa (Fu PassesOwn.never (PW3.pt (Jc (Cy LB (Ao A7 (vN 2) Ad) (BA Ar (vK 0))) (Fz (Bb (AK hr Aq (a2 (AF (AF (vK 0) (Ao A7 (vN 2) Ad)) Ad) (vN 1))))))) (Ai (AU 2 Dc (Ao A7 (vN 2) Ad))))
  (Aa (AU 3 Dc (AK hr A8 (a2 (vN 0) (vN 2))))
  (Aa (AU 4 Dc (AK hr Aw (a2 (vN 1) (AF (AF (vK 0) (vN 2)) Ad))))
  (BC (AK hr BN (a2 (AF (AF (vK 0) (vN 2)) Ad) (BP (a2 (Ao A6 (vK 3) (vK 4)) (Ao A6 (vK 3) (vK 4))))))))))),?_]
 refine#[fun mm τ=>∃j:Nat,τ=[some (.d (crv cs m)),some (.d (tp tn td)),I j,none,none]/\j<cs.length/\tt cs j<=t/\mm=cs.length-j,#[_,0,rfl,oc.ne,by rw[oc.t0];exact t0,rfl],?_]
 rintro mm τ ⟨j,rfl,jl,jt,rfl⟩
 refine Cw (fun c=>?_) (fun c=>?_)
 .rw[qAa] at c
  have j1:j+1<cs.length:=()
  refine atR (BU (cs:=cs) (i:=(j:Int)+1) (j+1) () j1) ?_
  have w1:=Wq.of (zc _ j1).1
  refine#[_,_,_,_,rfl,(w1.mono (show n<=n+k from ())).l4 (wt.mono (show k<=n+k from ())) (),?_]
  refine Cw (fun c2=>?_) (fun c2=>?_)
  .rw[w1.le_iff wt] at c2
   exact#[cs.length-(j+1),(),j+1,rfl,j1,c2,rfl]
  .rw[w1.le_iff wt] at c2
   have on:On cs j t:=#[jl,jt,fun _=>⋯]
   refine#[cs,m,_,j,n,rfl,rfl,jl,oc.up,(),zc,zm,fun A B wS=>?_]
   have b0:=BU (cs:=cs) (i:=(j:Int)) j rfl jl
   refine atR b0 ?_
   have w0:=Wq.of (zc _ jl).1
   refine#[_,_,_,_,rfl,(wt.mono (show k<=n+k from ())).l4 (w0.mono (show n<=n+k from ())) (),?_]
   have wg:=wt.minus2 w0
   refine atR b0 ?_
   have wm:=wS.mul wg
   refine#[Bd wS.la wg.la (),Bd wS.lb wg.lb (),(by show 2<=1000;decide),?_]
   have wv:=Wq.of (zc _ jl).2
   refine#[_,_,_,_,rfl,(wv.mono (show n<=400000 from ())).l4 (wm.mono ()) (qAd _),?_]
   exact q _ _ (((wv.plus wm).cast (Bu oc.up on).symm).mono ())
 .rw[qAa] at c
  have on:On cs j t:=#[jl,jt,fun h=>absurd h ()]
  refine#[cs,m,_,j,n,rfl,rfl,jl,oc.up,(),zc,zm,fun A B wS=>?_]
  have b0:=BU (cs:=cs) (i:=(j:Int)) j rfl jl
  refine atR b0 ?_
  have w0:=Wq.of (zc _ jl).1
  refine#[_,_,_,_,rfl,(wt.mono (show k<=n+k from ())).l4 (w0.mono (show n<=n+k from ())) (),?_]
  have wg:=wt.minus2 w0
  refine atR b0 ?_
  have wm:=wS.mul wg
  refine#[Bd wS.la wg.la (),Bd wS.lb wg.lb (),(by show 2<=1000;decide),?_]
  have wv:=Wq.of (zc _ jl).2
  refine#[_,_,_,_,rfl,(wv.mono (show n<=400000 from ())).l4 (wm.mono ()) (qAd _),?_]
  exact q _ _ (((wv.plus wm).cast (Bu oc.up on).symm).mono ())
variable (Bv:Cal P w K mg base (CXU P w) 3 "_law_at" ["_law_f","_law_t"] G0)
theorem ER:Ae ["_law_found","_law_part"] ["_law_found"] (Ac DD):=scN
include Ah Fo El Ar Bh AD in
theorem Hq (F:Fun K "_law_ratio" "_law_ratio" DD f fd):Az P w K mg base CX0 2 f fd ["_law_found"] (Ag K mg EY):=by
 refine fn3 F ER (fun ss R U h=>?_) (fun cdv A outer s H E ss R U hr h=>?_)
 .obtain⟨q0,rfl,_⟩:=h;rfl
 obtain⟨q0,rfl,hz,q⟩:=h
 refine#[_,(GK (B0 (PW3.pt (Hk (w_not (Bb (FR .tuple (vN 0) rfl Ah rfl Bh qBi))) (D8 (Cy NU (BA Ar (vN 0)) Ad)))) (BC GP) Ap)
  (Aa (IH (Bq PassesOwn.never rfl (C4 (pv 0)) (AH (i:=1) ER.nd rfl (Or.inl rfl)) (CY.out (Ai (B0 (PW3.pt (Hk (w_not (Bb (FR .int (vN 1) rfl Ah rfl Fo qBD))) (D8 (Bb (FR .bool (vN 1) rfl Ah rfl El qB1))))) (BC GP) Ap)))))
  (BC (QB (Lq S8 (vK 0) Ad (Ej _)) (Pw (Lq (P1 1 (hu_ hr ∅)) (AK hr AD (a2 (vK 0) (vK 0))) (vN 0) (Ej _))))))),?_]
 have hd:=den_pos q0
 refine#[#[trivial,rfl],?_]
 refine#[fun n τ=>∃z,τ=[some (.d (qd q0)),z],#[_,rfl],?_,?_]
 .rintro n τ x hx ⟨z,rfl⟩
  have ex:∃i,x=.int i:=by
   match n,hx with
   |0,hx=>exact#[_,(qAj hx).symm]
   |1,hx=>exact#[_,(qAj hx).symm]
  obtain⟨i,rfl⟩:=ex
  exact#[trivial,#[trivial,#[_,rfl]]]
 rintro τ ⟨z,rfl⟩
 refine Cw (fun _=>?_) (fun c=>absurd (show(0:Int)<q0.den from ()) c)
 refine#[q0.num,q0.den,rfl,(),hz.1,Av hz,rfl,rfl,?_]
 rw[qCi]
 have e:eqN 1 (qd q0) (qd q0)=true:=EM 1 _ rfl
 show R (.d (.bl (eqN 1 (qd q0) (qd q0))))
 rw[e]
 exact q
variable (BD:Cal P w K mg base (CXU P w) 2 "_law_ratio" ["_law_found"] EY)
theorem BI:Ae ["_law_found","_law_corner","_law_k","_law_one","_law_other"] ["_law_found"] (Ac DC):=scN
include Ah Ar Am Bh Aq A8 BD in
theorem H0 (F:Fun K "_law_curve" "_law_curve" DC f fd):Az P w K mg base CX0 3 f fd ["_law_found"] (Ag K mg EN):=by
 refine fn3 F BI (fun ss R U h=>?_) (fun cdv A outer s H E ss R U hr h=>?_)
 .obtain⟨cs,m,rfl,_⟩:=h;rfl
 obtain⟨cs,m,rfl,hc,hz,q⟩:=h
 refine#[_,(GK (B0 (PW3.pt (Hk (w_not (Bb (FR .tuple (vN 0) rfl Ah rfl Bh qBi))) (Hk (Cy NU (BA Ar (vN 0)) Ad) (D8 (w_not (Bb (FR .tuple (vK 0) rfl Ah rfl Bh qBi))))))) (BC GP) Ap)
  (GK (B0 (PW3.pt (Hk (Cy Iq (BA Ar (vK 0)) Ad) (Hk (w_not (Bb (AK hr BD (a1 (vK 0))))) (D8 (Cy LB (AF (vK 0) Ad) Ad))))) (BC GP) Ap)
  (Aa (Kx (Bq PassesOwn.never rfl (C4 (PE3.out (vK 0))) (AH (i:=1) BI.nd rfl (Or.inl rfl)) (CY.out (GK (B0 (PW3.pt (Hk (w_not (Bb (FR .tuple (vN 1) rfl Ah rfl Bh qBi))) (D8 (Cy NU (BA Ar (vN 1)) Ad)))) (BC GP) Ap)
  (Ai (B0 (PW3.pt (Hk (w_not (Bb (AK hr BD (a1 (vK 1))))) (D8 (w_not (Bb (AK hr BD (a1 (vK 1)))))))) (BC GP) Ap))))))
  (GK (B0 (PW3.pt (Hk (Cy (Nv 1 (hu_ hr ∅)) (AF (AF (vK 0) Ad) Ad) (BP (a2 Ad Ad))) (D8 (Cy LB (AF (AF (AF (vK 0) Ad) Ad) Ad) Ad)))) (BC GP) Ap)
  (Aa (GZ (Bq PassesOwn.never rfl (BX rfl Am (PA3.out (a2 Ad (BA Ar (vK 0))))) (AH (i:=2) BI.nd rfl (Or.inl rfl)) (CY.out (Aa (B0 (Bb (AK hr Aq (a2 (AF (AF (vK 0) (vN 2)) Ad) (AF (AF (vK 0) (Ao CB (vN 2) Ad)) Ad)))) (BC GP) Ap)
  (Aa (B0 (w_not (Bb (AK hr Aq (a2 (AF (AF (vK 0) (Ao CB (vN 2) Ad)) Ad) (AF (AF (vK 0) (vN 2)) Ad))))) (BC GP) Ap)
  (Aa (AU 3 BI (AK hr A8 (a2 (vN 0) (Ao CB (vN 2) Ad))))
  (Aa (AU 4 BI (AK hr A8 (a2 (vN 0) (vN 2))))
  (Ai (B0 (Cy Iq (Ao A6 (vK 3) (vK 4)) (Ao A6 (vK 4) (vK 3))) (BC GP) Ap)))))))))
  (BC GP)))))),?_]
 have hl:=hz.len
 have c0:=hc.ne
 have a0:=BU (cs:=cs) (i:=0) 0 rfl c0
 refine#[#[trivial,#[trivial,rfl]],?_]
 refine#[?_,?_]
 .refine Cw (fun c=>?_) (fun _=>?_)
  .rw[qAa] at c
   omega
  refine#[m,rfl,hz.m.mono ∅,?_]
  exact Cw (fun c=>absurd c (Pe hc.m0)) (fun _=>rfl)
 refine#[fun n τ=>∃z,τ=[some (.d (crv cs m)),z,none,none,none],#[_,rfl],?_,?_]
 .rintro n τ x hx ⟨z,rfl⟩
  obtain⟨nl,rfl⟩:=Ga hx
  refine#[#[trivial,rfl],?_]
  exact#[_,rfl,(hz.cs n nl).1.mono ∅,_,rfl,(hz.cs n nl).2.mono ∅,_,rfl]
 rintro τ ⟨z,rfl⟩
 refine#[?_,?_]
 .refine atR a0 ?_
  refine#[(by show 2<=1000;decide),rfl,rfl,?_]
  rw[hc.t0]
  refine atR a0 ?_
  exact Cw (fun c=>absurd c (Pe hc.v0)) (fun _=>rfl)
 refine#[#[∅,∅,?_,?_],?_]
 .rw[qAa];omega
 .rw[qAa];omega
 refine#[fun n τ=>∃y y2 y3,τ=[some (.d (crv cs m)),z,y,y2,y3],#[_,_,_,rfl],?_,?_]
 .rintro n τ hn ⟨y,y2,y3,rfl⟩
  rw[qAa] at hn
  have n1:n+1<cs.length:=()
  have b0:=BU (cs:=cs) (i:=1+n*1-1) n () ()
  have b1:=BU (cs:=cs) (i:=1+n*1) (n+1) () n1
  have z0:=hz.cs n ()
  have z1:=hz.cs (n+1) n1
  have w0:=Wq.of z0.1
  have w1:=Wq.of z1.1
  have u0:=Wq.of z0.2
  have u1:=Wq.of z1.2
  refine atR b1 ?_
  refine atR b0 ?_
  refine#[_,_,_,_,rfl,w1.l4 w0 ∅,?_]
  refine Cw (fun c=>absurd ((w1.le_iff w0).mp c) (qBT.mpr (hc.up n n1))) (fun _=>?_)
  refine atR b0 ?_
  refine atR b1 ?_
  refine#[_,_,_,_,rfl,u0.l4 u1 ∅,?_]
  refine IY (fun c=>absurd ((u0.le_iff u1).mpr (hc.vu n n1)) c) (fun _=>?_)
  refine#[cs,m,_,n,2400,rfl,(),(),hc.up,∅,hz.cs,hz.m,fun A B wA=>?_]
  refine#[cs,m,_,n+1,2400,rfl,(),(),hc.up,∅,hz.cs,hz.m,fun A2 B2 wB=>?_]
  refine#[Bd wA.la wB.lb ∅,Bd wB.la wA.lb ∅,?_]
  refine Cw (fun c=>absurd (Jl wA wB c) (hc.bend n n1)) (fun _=>?_)
  exact#[_,_,_,rfl]
 rintro τ ⟨y,y2,y3,rfl⟩
 exact q
variable (CS:Cal P w K mg base (CXU P w) 3 "_law_curve" ["_law_found"] EN)
theorem A4:Ae ["_law_cells","_law_slopes_here","_law_slope_here","_law_cell","_law_kind"] ["_law_cells"] (Ac Dq):=scN
theorem GH (F:Fun K "_law_slopes" "_law_slopes" Dq f fd):Az P w K mg base CX0 1 f fd ["_law_cells"] (Ag K mg Eg):=by
 refine fn3 F A4 (fun ss R U h=>?_) (fun cdv A outer s H E ss R U hr h=>?_)
 .obtain⟨ms,rfl,_⟩:=h;rfl
 obtain⟨ms,rfl,hl,q⟩:=h
 refine#[_,(Aa (AU 1 A4 (Et FP))
  (Aa (AU 2 A4 Ad)
  (Aa (IH (Bq PassesOwn.never rfl (C4 (pv 0)) (AH (i:=3) A4.nd rfl (Or.inl rfl)) (CY.out (Aa (AU 4 A4 (Ao BQ (vN 3) Ad))
  (BV (B0 (Cy NU (vN 4) Ad) (Ai (AU 2 A4 (Ao A6 (Ao Bi (vN 4) Ad) (Ao A7 Ad (Ao BQ (Ao Bi (vN 3) Ad) Ad))))) Ap)
  (BV (B0 (PW3.pt (Jc (Cy Iq (vN 4) Ad) (Fz (Cy Iq (Ao BQ (Ao Bi (vN 3) Ad) Ad) Ad)))) (Ai (AU 2 A4 (Ao A7 Ad (Ao BQ (Ao Bi (vN 3) Ad) (Ao Og Ad Ad))))) Ap)
  (Ai (Fb (Bg (DR qAx qAy qAz AB (pv 1) (Ak (PE3.out (vN 2)) AA)))))))))))
  (Ai (E4 (pv 1)))))),?_]
 have h91:(10:Int)^(9:Int).toNat=1000000000:=∅
 refine#[(by show 0<=1000;decide),?_]
 refine#[fun n τ=>∃(sl:List Int)(s:Int)(y3 y4:Option S),τ=[some (.r (ms.map D.int)),some (.l (sl.map D.int)),I s,y3,y4]/\sl.length=n/\(∀x∈sl,0<=x/\x<=1000000000)/\0<=s/\s<=1000000000,#[[],0,_,_,rfl,rfl,fun x h=>(nomatch h),∅,∅],?_,?_]
 .rintro n τ x hx ⟨sl,s,y3,y4,rfl,el,bs,s0,s1⟩
  obtain⟨c,hc,rfl⟩:=Cd hx
  have nl:=(qAf.mp hc).1
  have f8:=fm (a:=c) (show(0:Int)<8 from ∅)
  refine#[∅,?_]
  generalize c.fmod 8=kd at f8
  refine#[fun τ=>∃s:Int,τ=[some (.r (ms.map D.int)),some (.l (sl.map D.int)),I s,I c,I kd]/\0<=s/\s<=1000000000,?_,?_]
  .refine IY (fun _=>?_) (fun _=>#[_,rfl,s0,s1])
   have f3:=fm (a:=c.fdiv 8) (show(0:Int)<3 from ∅)
   have e2:0<=kd.fdiv 2/\kd.fdiv 2<=3:=by rw[qBd _ ∅];omega
   have m0:=qBU e2.1 (show 0<=1+(c.fdiv 8).fmod 3 from ())
   have m1:=qBV e2.2 (show 1+(c.fdiv 8).fmod 3<=3 from ()) () ∅
   exact#[#[∅,Dg ∅],#[∅,Dg ∅],∅,Bd (m:=2) (n:=2) () () ∅,_,rfl,m0,()]
  rintro τ ⟨s,rfl,s0,s1⟩
  refine#[fun τ=>∃s:Int,τ=[some (.r (ms.map D.int)),some (.l (sl.map D.int)),I s,I c,I kd]/\0<=s/\s<=1000000000,?_,?_]
  .refine Cw (fun _=>?_) (fun _=>?_)
   .refine#[#[∅,Dg ∅],∅,?_]
    refine Cw (fun _=>?_) (fun _=>#[_,rfl,s0,s1])
    have f9:=fm (a:=c.fdiv 96) (show(0:Int)<1000000000 from ∅)
    refine#[#[∅,Dg ∅],#[∅,∅,∅],∅,?_]
    rw[h91]
    exact#[_,rfl,(),()]
   .exact#[_,rfl,s0,s1]
  rintro τ ⟨s,rfl,s0,s1⟩
  refine#[by rw[qAa];omega,?_]
  refine#[sl++[s],s,_,_,by rw[qAB];rfl,by rw[qAn,el];rfl,fun x hx=>?_,s0,s1]
  rcases qAu.mp hx with h|h
  .exact bs x h
  .rw[qAw.mp h];exact#[s0,s1]
 rintro τ ⟨sl,s,y3,y4,rfl,el,bs,s0,s1⟩
 rw[qAa] at el
 exact q sl el bs
variable (Cc:Cal P w K mg base (CXU P w) 1 "_law_slopes" ["_law_cells"] Eg)
theorem An:Ae ["_law_head","_law_cells","_law_start","_law_shape","_law_unit","_law_part","_law_slopes_here","_law_time","_law_value","_law_corners","_law_k","_law_gap"] ["_law_head","_law_cells","_law_start","_law_shape"] (Ac DQ):=scN
variable (EC:mg "sorted"=none)
include Ar Am Bh AD Cc EC in
theorem HN (F:Fun K "_law_drawn" "_law_drawn" DQ f fd):Az P w K mg base CX0 2 f fd ["_law_head","_law_cells","_law_start","_law_shape"] (Ag K mg EE):=by
 refine fn3 F An (fun ss R U h=>?_) (fun cdv A outer s H E ss R U hr h=>?_)
 .obtain⟨c,ms,st,sh,rfl,_⟩:=h;rfl
 obtain⟨c,ms,st,sh,rfl,c0,c1,m0,m1,s0,s1,q⟩:=h
 refine#[_,(Aa (AU 4 An (Ao A7 Ad (Ao BQ (vN 0) Ad)))
  (Aa (AU 5 An (Ao A7 Ad (Ao BQ (Ao Bi (vN 0) Ad) Ad)))
  (BV (B0 (Cy Iq (Ao BQ (Ao Bi (vN 0) Ad) Ad) Ad) (Ai (AU 4 An (Ao A7 Ad (Ao BQ (Ao Bi (vN 0) Ad) (Ao Og Ad Ad))))) Ap)
  (Aa (AU 6 An (AK hr Cc (a1 (vN 1))))
  (BV (B0 (Cy Iq (vN 3) Ad) (Ai (AU 6 An (LO (vN 6) rfl EC))) Ap)
  (BV (B0 (Cy Iq (vN 3) Ad) (Ai (AU 6 An (Oj (vN 6) rfl EC))) Ap)
  (Aa (AU 7 An Ad)
  (Aa (AU 8 An (vN 2))
  (Aa (AU 9 An (Et (a1 (BP (a2 (BP (a2 Ad Ad)) (AK hr AD (a2 (vN 8) (Ao A6 (vN 4) (vN 5)))))))))
  (Aa (GZ (Bq PassesOwn.never rfl (BX rfl Am (PA3.out (a2 Ad (BA Ar (vN 1))))) (AH (i:=10) An.nd rfl (Or.inl rfl)) (CY.out (Aa (AU 11 An (Ao A7 Ad (Ao BQ (Ao Bi (AF (vN 1) (Ao CB (vN 10) Ad)) Ad) Ad)))
  (BV (B0 (Cy Iq (vN 11) Ad) (Ai (AU 11 An (Ao A7 Ad (Ao BQ (Ao A6 (AF (vN 1) (Ao CB (vN 10) Ad)) Ad) Ad)))) Ap)
  (Aa (AU 7 An (Ao A7 (vN 7) (vN 11)))
  (Aa (AU 8 An (Ao A7 (vN 8) (Ao A6 (vN 11) (AF (vN 6) (Ao CB (vN 10) Ad)))))
  (Ai (B0 (Cy NU (AF (vN 6) (vN 10)) (AF (vN 6) (Ao CB (vN 10) Ad))) (Ai (Fb (Bg (DR qAx qAy qAz AB (pv 9) (Ak (PE3.out (BP (a2 (AK hr AD (a2 (vN 7) (vN 4))) (AK hr AD (a2 (vN 8) (Ao A6 (vN 4) (vN 5))))))) AA))))) Ap)))))))))
  (BC (BP (a2 (JO (vN 9) rfl Bh) (AK hr AD (a2 (AF (vN 6) (QG Ad)) (vN 5)))))))))))))))),?_]
 have c30:c.fdiv 30=0:=by rw[qBd _ ∅];omega
 have f6:=fm (a:=c) (show(0:Int)<6 from ∅)
 have f5:=fm (a:=c.fdiv 6) (show(0:Int)<5 from ∅)
 refine#[∅,#[∅,Dg ∅],∅,?_]
 refine#[fun τ=>∃u p:Int,τ=[I c,some (.r (ms.map D.int)),I st,I sh,I u,I p,none,none,none,none,none,none]/\0<u/\u<=6/\0<p/\p<=5,?_,?_]
 .refine#[#[∅,Dg ∅],∅,?_]
  exact Cw (fun z=>absurd z (by rw[c30];decide)) (fun _=>#[_,_,rfl,(),(),(),()])
 clear f6 f5
 rintro τ ⟨u,p,rfl,u0,u1,p0,p1⟩
 refine#[ms,rfl,(),fun sl el bs=>?_]
 refine#[fun τ=>∃sl:List Int,τ=[I c,some (.r (ms.map D.int)),I st,I sh,I u,I p,some (.l (sl.map D.int)),none,none,none,none,none]/\(sl.length=ms.length/\∀x∈sl,0<=x/\x<=1000000000),?_,?_]
 .exact Cw (fun _=>#[sl,rfl,(),fun sl' pm=>#[sl',rfl,by rw[pm.length_eq];exact el,fun x hx=>bs x (pm.mem_iff.mp hx)]]) (fun _=>#[sl,rfl,el,bs])
 clear bs el
 clear sl
 rintro τ ⟨sl,rfl,el,bs⟩
 refine#[fun τ=>∃sl:List Int,τ=[I c,some (.r (ms.map D.int)),I st,I sh,I u,I p,some (.l (sl.map D.int)),none,none,none,none,none]/\(sl.length=ms.length/\∀x∈sl,0<=x/\x<=1000000000),?_,?_]
 .exact Cw (fun _=>#[sl,rfl,(),fun sl' pm=>#[sl',rfl,by rw[pm.length_eq];exact el,fun x hx=>bs x (pm.mem_iff.mp hx)]]) (fun _=>#[sl,rfl,el,bs])
 clear bs el
 clear sl
 rintro τ ⟨sl,rfl,el,bs⟩
 have up0:0<u*p:=qCh u0 p0
 have ub:u.natAbs<2^3:=()
 have pb:p.natAbs<2^3:=()
 have upb:(u*p).natAbs<2^6:=Ay ub pb
 have mup:IntMulOk u p:=Bd ub pb ∅
 have u13:∀{x n:Nat},x<2^n->n<=100->x<2^13000:=fun h l=>AJ h ()
 have s9:∀j:Nat,j<sl.length->0<=cell sl j/\cell sl j<=2000000000000:=fun j hj=>by have:=bs _ (N9 hj);omega
 have zsl:∀j:Nat,j<sl.length->Sz 45 (Rat.divInt (cell sl j) p)/\Gd p 41 (Rat.divInt (cell sl j) p):=fun j hj=>by
  have:=s9 j hj
  exact#[P5 p0 () (AJ pb ∅),KH () ()]
 have stb:st.natAbs<2^67:=()
 refine#[(by show 2<=1000;decide),mup,st,u*p,rfl,up0,u13 stb ∅,u13 upb ∅,(by show 2<=1000;decide),(by show 1<=1000;decide),?_]
 refine#[#[∅,∅,by rw[qAa];omega,by rw[qAa];omega],?_]
 refine#[fun n τ=>∃(ti va:Int)(cs:Cs)(y10 y11:Option S),τ=[I c,some (.r (ms.map D.int)),I st,I sh,I u,I p,some (.l (sl.map D.int)),I ti,I va,some (.l (cs.map cd)),y10,y11]/\Ord cs/\(Ln 45 68 cs (Rat.divInt (cell sl n) p)/\Dw u p (fun _=>False) cs (Rat.divInt (cell sl n) p)/\Rat.divInt va (u*p)=vv cs (cs.length-1)+Rat.divInt (cell sl n) p*(Rat.divInt ti u-tt cs (cs.length-1)))/\cs.length<=n+1/\vv cs 0=Rat.divInt st (u*p)/\tt cs (cs.length-1)<=Rat.divInt ti u/\vv cs (cs.length-1)<=Rat.divInt va (u*p)/\0<=ti/\ti<=n*1000010/\0<=va/\va<=4000000000000+n*2000020000000000000,#[0,st,[(0,Rat.divInt st (u*p))],_,_,rfl,Ord.one (Jg up0 s0),#[Ln.one (zsl 0 ()).1 (by show Sz 68 (Rat.divInt st (u*p)-Rat.divInt (cell sl 0) p*0);rw[show Rat.divInt st (u*p)-Rat.divInt (cell sl 0) p*0=Rat.divInt st (u*p) from ⋯];exact P5 up0 () (AJ upb ∅)),Dw.one (KH (qBu up0) stb) (zsl 0 ()).2,by rw[Rat.zero_divInt];show Rat.divInt st (u*p)=Rat.divInt st (u*p)+Rat.divInt (cell sl 0) p*(0-0);grind],qAd _,rfl,by rw[Rat.zero_divInt];exact qAc,qAc,∅,∅,s0,()],?_,?_]
 .rintro n τ hn ⟨ti,va,cs,y10,y11,rfl,oc,⟨zl,dw,onl⟩,lc,hv0,ht,hv,i0,i1,v0,v1⟩
  rw[qAa] at hn
  have nl:n+1<ms.length:=()
  have b0:=EW (ms:=ms) (i:=1+n*1-1) n () ()
  have c0:=EW (ms:=sl) (i:=1+n*1-1) n () ()
  have c1:=EW (ms:=sl) (i:=1+n*1) (n+1) () ()
  have sn:=s9 n ()
  have sn1:=s9 (n+1) ()
  have zs1:=zsl (n+1) ()
  have bn:∀e,(fun _:Rat=>False) e->e*Rat.divInt (cell sl ((n+1:Nat):Int)) p<=e*Rat.divInt (cell sl (n:Nat)) p:=fun e h=>h.elim
  generalize cell ms (n:Nat)=y at b0
  refine atR b0 ?_
  have f4:=fm (a:=y.fdiv 6) (show(0:Int)<4 from ∅)
  have f3:=fm (a:=y*48271) (show(0:Int)<1000003 from ∅)
  refine#[#[∅,Dg ∅],∅,?_]
  refine#[fun τ=>∃g:Int,τ=[I c,some (.r (ms.map D.int)),I st,I sh,I u,I p,some (.l (sl.map D.int)),I ti,I va,some (.l (cs.map cd)),I (1+(n:Int)*1),I g]/\1<=g/\g<=1000010,?_,?_]
  .refine Cw (fun _=>?_) (fun _=>#[_,rfl,(),()])
   refine atR b0 ?_
   exact#[PySem.IntMulOk.of_right ∅,∅,_,rfl,(),()]
  rintro τ ⟨g,rfl,g0,g1⟩
  refine atR c0 ?_
  generalize ecx:cell sl n=x at sn zl onl dw bn ⊢
  have gx:0<=g*x:=qBU () sn.1
  have gx1:g*x<=1000010*2000000000000:=qBV g1 sn.2 sn.1 ∅
  refine#[Bd (m:=21) (n:=42) () () ∅,?_]
  refine atR c1 ?_
  refine atR c0 ?_
  have lt1:Rat.divInt ti u<Rat.divInt (ti+g) u:=IV u0 ()
  have le1:Rat.divInt va (u*p)<=Rat.divInt (va+g*x) (u*p):=LN up0 ()
  have tb:(ti+g).natAbs<2^26:=()
  have vb:(va+g*x).natAbs<2^67:=()
  have st2:=MB (va:=va) (g:=g) (x:=x) (ti:=ti) u0 p0
  have onl2:Rat.divInt (va+g*x) (u*p)=vv cs (cs.length-1)+Rat.divInt x p*(Rat.divInt (ti+g) u-tt cs (cs.length-1)):=by
   rw[st2,onl]
   generalize Rat.divInt x p=M
   generalize Rat.divInt ti u=X0
   generalize Rat.divInt (ti+g) u=X1
   generalize vv cs (cs.length-1)=Y
   generalize tt cs (cs.length-1)=Z
   grind
  refine IY (fun ne=>?_) (fun ne=>?_)
  .refine#[ti+g,u,rfl,u0,u13 tb ∅,u13 ub ∅,mup,va+g*x,u*p,rfl,up0,u13 vb ∅,u13 upb ∅,(by show 2<=1000;decide),by rw[qAa];omega,?_]
   have dv:(Rat.divInt (va+g*x) (u*p)-vv cs (cs.length-1))/(Rat.divInt (ti+g) u-tt cs (cs.length-1))=Rat.divInt x p:=Ko (by rw[onl2];grind) ⋯
   have o2:Ord (cs++[(Rat.divInt (ti+g) u,Rat.divInt (va+g*x) (u*p))]):=oc.snoc (c:=(Rat.divInt (ti+g) u,Rat.divInt (va+g*x) (u*p))) (by show _<Rat.divInt (ti+g) u;grind) (by show _<=Rat.divInt (va+g*x) (u*p);grind)
   have ln:(cs++[(Rat.divInt (ti+g) u,Rat.divInt (va+g*x) (u*p))]).length-1=cs.length:=by rw[AR];omega
   have nx:Rat.divInt x p≠Rat.divInt (cell sl ((n+1:Nat):Int)) p:=fun z=>ne (by rw[ecx];exact(PX p0 z).symm)
   refine#[_,_,cs++[(Rat.divInt (ti+g) u,Rat.divInt (va+g*x) (u*p))],_,_,by rw[qAB];rfl,o2,#[zl.snoc dv zs1.1 ?_,dw.snoc oc.ne dv (KH () tb) (KH (qBu up0) vb) zs1.2 nx bn,?_],by rw[AR];omega,by rw[JT oc.ne];exact hv0,by rw[ln,KR];exact qAc,by rw[ln,K8];exact qAc,(),(),(),()]
   .show Sz 68 (Rat.divInt (va+g*x) (u*p)-Rat.divInt (cell sl ((n+1:Nat):Int)) p*Rat.divInt (ti+g) u)
    rw[P4 u0 p0]
    have m3:cell sl ((n+1:Nat):Int)*(ti+g)<=2000000000000*60000000:=qBV sn1.2 () () ∅
    have m4:0<=cell sl ((n+1:Nat):Int)*(ti+g):=qBU sn1.1 ()
    have m2:(cell sl ((n+1:Nat):Int)*(ti+g)).natAbs<2^67:=()
    exact P5 up0 (IK vb m2) (AJ upb ∅)
   .rw[ln,KR,K8]
    show Rat.divInt (va+g*x) (u*p)=Rat.divInt (va+g*x) (u*p)+_*(Rat.divInt (ti+g) u-Rat.divInt (ti+g) u)
    grind
  .have ne:cell sl ((n+1:Nat):Int)=x:=ne.trans ecx
   exact#[_,_,cs,_,_,rfl,oc,#[by rw[ne];exact zl,by rw[ne];exact dw,by rw[ne];exact onl2],(),hv0,⋯,⋯,(),(),(),()]
 rintro τ ⟨ti,va,cs,y10,y11,rfl,oc,⟨zl,dw,onl⟩,lc,hv0,ht,hv,i0,i1,v0,v1⟩
 have eN:((((ms.map D.int).length:Nat):Int)-1).toNat=ms.length-1:=by rw[qAa];omega
 rw[eN] at lc zl dw
 have bx:=s9 (ms.length-1) ()
 refine atR (Im (ms:=sl) ()) ?_
 rw[el]
 have xb:(cell sl ((ms.length-1:Nat):Int)).natAbs<2^67:=()
 refine#[cell sl ((ms.length-1:Nat):Int),p,rfl,p0,u13 xb ∅,u13 pb ∅,(by show 2<=1000;decide),?_]
 have m0':=Jg p0 bx.1
 have zt:∀i,i<cs.length->Sz 41 (tt cs i):=fun i hi=>((dw.tm i hi).mono ∅).sz () ()
 exact q cs _ #[#[oc.ne,oc.t0,oc.v0,m0',oc.up,oc.vu,dw.bend],(),u,p,#[#[u0,u1],#[p0,p1],dw.tm,dw.sl,dw.va]]
variable (CI:Cal P w K mg base (CXU P w) 2 "_law_drawn" ["_law_head","_law_cells","_law_start","_law_shape"] EE)
theorem Jo:Ae ["_law_script","_law_begin","_law_many"] ["_law_script","_law_begin","_law_many"] (Ac DY):=scN
include Am Al in
theorem Jz (F:Fun K "_law_few" "_law_few" DY f fd):Az P w K mg base CX0 2 f fd ["_law_script","_law_begin","_law_many"] (Ag K mg Gz):=by
 refine fn3 F Jo (fun ss R U h=>?_) (fun cdv A outer s H E ss R U hr h=>?_)
 .obtain⟨ns,b,z,rfl,_⟩:=h;rfl
 obtain⟨ns,b,z,rfl,b0,b1,z0,z1,q⟩:=h
 refine#[_,(BC (L8 (N:=["_law_k","_law_script"]) (idx:=[0]) (Bo.mk' (Ac DY) ["_law_script","_law_begin","_law_many"] rfl rfl (by decide +kernel)) rfl (BX rfl Am (PA3.out (a2 (vN 1) (Ao A7 (vN 1) (vN 2))))) J1 (fun cl C s₀ H₀ fp=>Dm) (fun cl C s₀ H₀ fp=>(AK hr Al (a2 (vN 1) (vN 0)))))),?_]
 refine#[#[(),(),(),()],?_]
 generalize ec:(b+z-b).toNat=cnt
 have hc:0<cnt/\cnt<=8:=()
 refine#[(List.range cnt).map fun(i:Nat)=>some (D.int (cl ns (b+(i:Int)*1))),by rw[AV,qAa,qAt],?_,?_,?_]
 .intro n x hx
  obtain⟨hn,rfl⟩:=C6 hx
  refine#[ns,b+(n:Int)*1,rfl,(),(),?_]
  show((List.range cnt).map _)[n]? = _
  rw[qAh,qA6 hn]
  rfl
 .rw[AV];omega
 rw[Qh]
 exact q _ (by rw[qAa,qAt];omega)
variable (D0:Cal P w K mg base (CXU P w) 2 "_law_few" ["_law_script","_law_begin","_law_many"] Gz)
theorem Bp:Ae ["_law_curves","_law_found","_law_f","_law_corner","_law_k"] ["_law_curves"] (Ac DN):=scN
include Ar Aq in
theorem HL (F:Fun K "_law_times" "_law_times" DN f fd):Az P w K mg base CX0 2 f fd ["_law_curves"] (Ag K mg EL):=by
 refine fn3 F Bp (fun ss R U h=>?_) (fun cdv A outer s H E ss R U hr h=>?_)
 .obtain⟨fs,n,rfl,_⟩:=h;rfl
 obtain⟨fs,n,rfl,hl,hn,hf,q⟩:=h
 refine#[_,(Aa (AU 1 Bp (Et FP))
  (Aa (IH (Bq PassesOwn.never rfl (C4 (pv 0)) (AH (i:=2) Bp.nd rfl (Or.inl rfl)) (CY.out (Ai (Kx (Bq PassesOwn.never rfl (C4 (PE3.out (vK 2))) (AH (i:=3) Bp.nd rfl (Or.inl rfl)) (CY.out (Aa (AU 4 Bp Ad)
  (Aa (Fu PassesOwn.never (PW3.pt (Jc (Cy LB (vN 4) (BA Ar (vN 1))) (Fz (w_not (Bb (AK hr Aq (a2 (vK 3) (AF (vN 1) (vN 4))))))))) (Ai (AU 4 Bp (Ao A7 (vN 4) Ad))))
  (Ai (B0 (PW3.pt (Hk (Cy Iq (vN 4) (BA Ar (vN 1))) (D8 (Cy (Nv 1 (hu_ hr ∅)) (AF (vN 1) (vN 4)) (vK 3))))) (Ai (Ti (Bg (DR qAx PySem.F.slot_list_insert PySem.F.type_list_insert L9 (pv 1) (Ak (PE3.out (vN 4)) (Ak (PE3.out (vK 3)) AA)))))) Ap)))))))))))
  (Ai (E4 (pv 1))))),?_]
 refine#[(by show 0<=1000;decide),?_]
 refine#[fun j τ=>∃(ts:List Rat)(y2 y3 y4:Option S),τ=[some (.d (.lst (fs.map cD))),some (.l (ts.map qd)),y2,y3,y4]/\Asc ts/\(∀t∈ts,∃f∈fs,∃k,k<f.1.length/\t=tt f.1 k)/\(∀i (hi:i<fs.length),i<j->∀k,k<(fs[i]).1.length->tt (fs[i]).1 k∈ts)/\ts.length<=6000*j,#[[],_,_,_,rfl,List.Pairwise.nil,(fun t h=>by cases h),fun i _ hi=>absurd hi (qAZ i),qAS _],?_,?_]
 .rintro j τ x hx ⟨ts,y2,y3,y4,rfl,asc,of,al,tl⟩
  obtain⟨f,hf',rfl⟩:=Cd hx
  obtain⟨jl,ej⟩:=qAf.mp hf'
  have fm':f∈fs:=qAo hf'
  obtain⟨of',fl,fz⟩:=hf f fm'
  have szT:∀{ts:List Rat},(∀t∈ts,∃f∈fs,∃k,k<f.1.length/\t=tt f.1 k)->∀t∈ts,Sz n t:=fun of t ht=>by
   obtain⟨g,hg,k,hk,e⟩:=of t ht
   rw[e]
   exact(hf g hg).2.2 k hk
  refine#[fun i τ=>∃(ts:List Rat)(y3 y4:Option S),τ=[some (.d (.lst (fs.map cD))),some (.l (ts.map qd)),some (.d (cD f)),y3,y4]/\Asc ts/\(∀t∈ts,∃f∈fs,∃k,k<f.1.length/\t=tt f.1 k)/\(∀i (hi:i<fs.length),i<j->∀k,k<(fs[i]).1.length->tt (fs[i]).1 k∈ts)/\(∀k,k<i->k<f.1.length->tt f.1 k∈ts)/\ts.length<=6000*j+i,#[ts,_,_,rfl,asc,of,al,fun k hk=>absurd hk (qAZ k),()],?_,?_]
  .clear asc of al tl
   clear ts y3 y4
   rintro i τ x hx ⟨ts,y3,y4,rfl,asc,of,al,ml,tl⟩
   obtain⟨il,rfl⟩:=Ga hx
   have zx:=fz i il
   have zt:=szT of
   have wx:=Wq.of zx
   refine#[fun mm τ=>∃kk:Nat,τ=[some (.d (.lst (fs.map cD))),some (.l (ts.map qd)),some (.d (cD f)),some (.d (.tup [qd (tt f.1 i),qd (vv f.1 i)])),I kk]/\kk<=ts.length/\(∀j (hj:j<ts.length),j<kk->ts[j]<tt f.1 i)/\mm=ts.length-kk,#[_,0,rfl,qAS _,fun j _ hj=>absurd hj (qAZ j),rfl],?_]
   rintro mm τ ⟨kk,rfl,kl,kb,rfl⟩
   refine Cw (fun c=>?_) (fun c=>?_)
   .rw[qAa] at c
    have k1:kk<ts.length:=()
    have zk:=zt _ (qA3 k1)
    rw[<-B8 k1] at zk
    have wk:=Wq.of zk
    refine atR (SW kk rfl k1) ?_
    refine#[_,_,_,_,rfl,wx.l4 wk (),?_]
    refine IY (fun c2=>?_) (fun c2=>?_)
    .rw[wx.le_iff wk] at c2
     refine#[ts.length-(kk+1),(),kk+1,rfl,k1,fun j hj hjk=>?_,rfl]
     by_cases e:j<kk
     .exact kb j hj e
     .have:j=kk:=()
      subst this
      rw[<-B8 k1]
      exact qBT.mp c2
    .rw[wx.le_iff wk] at c2
     have hge:kk<ts.length->tt f.1 i<=T ts kk:=fun _=>c2
     clear k1
     refine Cw (fun e1=>?_) (fun e1=>?_)
     .rw[qAa] at e1
      have gt:∀j (hj:j<ts.length),kk<=j->tt f.1 i<ts[j]:=fun j hj h=>absurd hj ()
      refine#[(),by rw[qAa];omega,by rw[qAa];omega,?_]
      have em:(ts.take kk++tt f.1 i::ts.drop kk).map qd=(ts.map qd).take ((kk:Int)).toNat++qd (tt f.1 i)::(ts.map qd).drop ((kk:Int)).toNat:=by rw[qA8,qAB,qB2,qCq,qBH]
      refine#[ts.take kk++tt f.1 i::ts.drop kk,_,_,by rw[em];rfl,asc.ins kb gt,fun t ht=>?_,fun i' hi' hij k hk=>Bs.mpr (.inr (al i' hi' hij k hk)),fun k hk hk2=>?_,?_]
      .rcases Bs.mp ht with rfl|ht
       .exact#[f,fm',i,il,rfl]
       .exact of t ht
      .by_cases z:k<i
       .exact Bs.mpr (.inr (ml k z hk2))
       .have:k=i:=()
        subst this
        exact Bs.mpr (.inl rfl)
      .rw[qAn,qAU,qAT,qAQ];omega
     .rw[qAa] at e1
      have k1:kk<ts.length:=()
      refine atR (SW kk rfl k1) ?_
      refine#[rfl,rfl,neT (T ts kk) (tt f.1 i) (fun e2=>?_) (fun e2=>?_)]
      .have gt:∀j (hj:j<ts.length),kk<=j->tt f.1 i<ts[j]:=fun j hj h=>by
        have l1:=hge k1
        have l2:=C9 asc.T (i:=kk) (j:=j) h hj
        rw[<-B8 hj]
        grind
       refine#[(),by rw[qAa];omega,by rw[qAa];omega,?_]
       have em:(ts.take kk++tt f.1 i::ts.drop kk).map qd=(ts.map qd).take ((kk:Int)).toNat++qd (tt f.1 i)::(ts.map qd).drop ((kk:Int)).toNat:=by rw[qA8,qAB,qB2,qCq,qBH]
       refine#[ts.take kk++tt f.1 i::ts.drop kk,_,_,by rw[em];rfl,asc.ins kb gt,fun t ht=>?_,fun i' hi' hij k hk=>Bs.mpr (.inr (al i' hi' hij k hk)),fun k hk hk2=>?_,?_]
       .rcases Bs.mp ht with rfl|ht
        .exact#[f,fm',i,il,rfl]
        .exact of t ht
       .by_cases z:k<i
        .exact Bs.mpr (.inr (ml k z hk2))
        .have:k=i:=()
         subst this
         exact Bs.mpr (.inl rfl)
       .rw[qAn,qAU,qAT,qAQ];omega
      .refine#[ts,_,_,rfl,asc,of,al,fun k hk hk2=>?_,()]
       by_cases z:k<i
       .exact ml k z hk2
       .have:k=i:=()
        subst this
        rw[<-e2,B8 k1];exact qA3 k1
   .rw[qAa] at c
    have hge:kk<ts.length->tt f.1 i<=T ts kk:=fun z=>absurd z ()
    refine Cw (fun e1=>?_) (fun e1=>?_)
    .rw[qAa] at e1
     have gt:∀j (hj:j<ts.length),kk<=j->tt f.1 i<ts[j]:=fun j hj h=>absurd hj ()
     refine#[(),by rw[qAa];omega,by rw[qAa];omega,?_]
     have em:(ts.take kk++tt f.1 i::ts.drop kk).map qd=(ts.map qd).take ((kk:Int)).toNat++qd (tt f.1 i)::(ts.map qd).drop ((kk:Int)).toNat:=by rw[qA8,qAB,qB2,qCq,qBH]
     refine#[ts.take kk++tt f.1 i::ts.drop kk,_,_,by rw[em];rfl,asc.ins kb gt,fun t ht=>?_,fun i' hi' hij k hk=>Bs.mpr (.inr (al i' hi' hij k hk)),fun k hk hk2=>?_,?_]
     .rcases Bs.mp ht with rfl|ht
      .exact#[f,fm',i,il,rfl]
      .exact of t ht
     .by_cases z:k<i
      .exact Bs.mpr (.inr (ml k z hk2))
      .have:k=i:=()
       subst this
       exact Bs.mpr (.inl rfl)
     .rw[qAn,qAU,qAT,qAQ];omega
    .rw[qAa] at e1
     have k1:kk<ts.length:=()
     refine atR (SW kk rfl k1) ?_
     refine#[rfl,rfl,neT (T ts kk) (tt f.1 i) (fun e2=>?_) (fun e2=>?_)]
     .have gt:∀j (hj:j<ts.length),kk<=j->tt f.1 i<ts[j]:=fun j hj h=>by
       have l1:=hge k1
       have l2:=C9 asc.T (i:=kk) (j:=j) h hj
       rw[<-B8 hj]
       grind
      refine#[(),by rw[qAa];omega,by rw[qAa];omega,?_]
      have em:(ts.take kk++tt f.1 i::ts.drop kk).map qd=(ts.map qd).take ((kk:Int)).toNat++qd (tt f.1 i)::(ts.map qd).drop ((kk:Int)).toNat:=by rw[qA8,qAB,qB2,qCq,qBH]
      refine#[ts.take kk++tt f.1 i::ts.drop kk,_,_,by rw[em];rfl,asc.ins kb gt,fun t ht=>?_,fun i' hi' hij k hk=>Bs.mpr (.inr (al i' hi' hij k hk)),fun k hk hk2=>?_,?_]
      .rcases Bs.mp ht with rfl|ht
       .exact#[f,fm',i,il,rfl]
       .exact of t ht
      .by_cases z:k<i
       .exact Bs.mpr (.inr (ml k z hk2))
       .have:k=i:=()
        subst this
        exact Bs.mpr (.inl rfl)
      .rw[qAn,qAU,qAT,qAQ];omega
     .refine#[ts,_,_,rfl,asc,of,al,fun k hk hk2=>?_,()]
      by_cases z:k<i
      .exact ml k z hk2
      .have:k=i:=()
       subst this
       rw[<-e2,B8 k1];exact qA3 k1
  .rintro τ ⟨ts,y3,y4,rfl,asc,of,al,ml,tl⟩
   rw[qAa] at ml tl
   refine#[ts,_,_,_,rfl,asc,of,fun i hi hij k hk=>?_,()]
   by_cases z:i<j
   .exact al i hi z k hk
   .have:i=j:=()
    subst this
    rw[ej] at hk ⊢
    exact ml k hk hk
 rintro τ ⟨ts,y2,y3,y4,rfl,asc,of,al,tl⟩
 rw[qAa] at al tl
 refine q ts #[asc,of,fun f hf' k hk=>?_] ()
 obtain⟨i,hi,rfl⟩:=qBj hf'
 exact al i hi hi k hk
variable (Bl:Cal P w K mg base (CXU P w) 2 "_law_times" ["_law_curves"] EL)
theorem Ig:Ae ["_law_one","_law_other"] ["_law_one","_law_other"] (Ac DW):=scN
theorem Hc (F:Fun K "_law_alike" "_law_alike" DW f fd):Az P w K mg base CX0 1 f fd ["_law_one","_law_other"] (Ag K mg E8):=by
 refine fn3 F Ig (fun ss R U h=>?_) (fun cdv A outer s H E ss R U hr h=>?_)
 .obtain⟨a,b,c,d,rfl,_⟩:=h;rfl
 obtain⟨a,b,c,d,rfl,⟨h1,h2,h3,h4⟩,q⟩:=h
 refine#[_,(BC (Lq Iq (Ao A6 (vK 0) (vK 1)) (Ao A6 (vK 1) (vK 0)) (Ej _))),?_]
 exact#[Bd h1 h4 ∅,Bd h3 h2 ∅,q]
variable (Bk:Cal P w K mg base (CXU P w) 1 "_law_alike" ["_law_one","_law_other"] E8)
theorem AI:Ae ["_law_coming","_law_offer","_law_leaving","_law_rows","_law_moments","_law_t","_law_k","_law_came","_law_gone"] ["_law_coming","_law_offer","_law_leaving"] (Ac Dr):=scN
include Ar Am BN Aw Aq Bv Bl Bk in
theorem GQ (F:Fun K "_law_leaves" "_law_leaves" Dr f fd):Az P w K mg base CX0 4 f fd ["_law_coming","_law_offer","_law_leaving"] (Ag K mg Ed):=by
 refine fn3 F AI (fun ss R U h=>?_) (fun cdv A outer s H E ss R U hr h=>?_)
 .obtain⟨ds,k,cs,m,L,K,C,M,rfl,_⟩:=h;rfl
 obtain⟨ds,k,cs,m,L,K,C,M,rfl,⟨oc,sc,lc⟩,⟨od,sd,ld⟩,cL,vL,cC,vC,⟨oC,sC,lC⟩,q⟩:=h
 refine#[_,(Aa (AU 3 AI (Et FP))
  (Aa (AU 4 AI (AK hr Bl (a1 (Et (Bc (vN 0) (a2 (vN 1) (vN 2)))))))
  (Aa (Fb (Bg (DR qAx qAy qAz AB (pv 4) (Ak (PE3.out (AK hr BN (a2 (AF (vN 4) (QG Ad)) (BP (a2 Ad Ad))))) AA))))
  (Aa (IH (Bq PassesOwn.never rfl (C4 (pv 4)) (AH (i:=5) AI.nd rfl (Or.inl rfl)) (CY.out (Aa (AU 7 AI (AK hr Bv (a2 (vN 0) (vN 5))))
  (Aa (AU 8 AI (AK hr Bv (a2 (vN 2) (vN 5))))
  (Ai (Fb (Bg (DR qAx qAy qAz AB (pv 3) (Ak (PE3.out (BP (Bc (vN 7) (a2 (vN 8) (AK hr Aw (a2 (AK hr Bv (a2 (vN 1) (vN 5))) (vN 8))))))) AA))))))))))
  (GK (B0 (PW3.pt (Hk (w_not (Bb (AK hr Aq (a2 (vK 2) (vK 0))))) (D8 (Cy LB (AF (AF (vK 3) Ad) Ad) Ad)))) (BC GP) Ap)
  (GK (B0 (PW3.pt (Jc (Cy S8 (AF (AF (vK 3) Ad) Ad) Ad) (Fz (w_not (Bb (AK hr Bk (a2 (AF (vK 3) Ad) (AF (vK 3) Ad)))))))) (BC GP) Ap)
  (Aa (Jb (Bq PassesOwn.never rfl (BL rfl Am (PA3.out (a1 (BA Ar (vN 3))))) (AH (i:=6) AI.nd rfl (Or.inl rfl)) (CY.out (Ai (B0 (w_not (Bb (AK hr Aq (a2 (AF (AF (vN 3) (vN 6)) Ad) (AF (AF (vN 3) (vN 6)) Ad))))) (BC GP) Ap)))))
  (Aa (GZ (Bq PassesOwn.never rfl (BX rfl Am (PA3.out (a2 Ad (BA Ar (vN 3))))) (AH (i:=6) AI.nd rfl (Or.inl rfl)) (CY.out (Aa (B0 (w_not (Bb (AK hr Aq (a2 (AF (AF (vN 3) (Ao CB (vN 6) Ad)) Ad) (AF (AF (vN 3) (vN 6)) Ad))))) (BC GP) Ap)
  (Ai (B0 (w_not (Bb (AK hr Bk (a2 (AF (AF (vN 3) (Ao CB (vN 6) Ad)) Ad) (AF (AF (vN 3) (vN 6)) Ad))))) (Ai (B0 (PW3.pt (Hk (w_not (Bb (AK hr Bk (a2 (AF (AF (vN 3) (Ao CB (vN 6) Ad)) Ad) (AF (AF (vN 3) (Ao CB (vN 6) Ad)) Ad))))) (D8 (w_not (Bb (AK hr Bk (a2 (AF (AF (vN 3) (vN 6)) Ad) (AF (AF (vN 3) (vN 6)) Ad)))))))) (BC GP) Ap)) Ap))))))
  (BC GP))))))))),?_]
 have oL:Ord L:=#[cL.ne,cL.t0,cL.v0,cL.up,cL.vu]
 refine#[(by show 0<=1000;decide),?_]
 refine#[(by show 3<=1000;decide),?_]
 have hf:∀f∈[(ds,k),(cs,m),(C,M)],Ord f.1/\f.1.length<=6000/\∀j,j<f.1.length->Sz 2400 (tt f.1 j):=fun f hf=>by
  simp only[qAk,qA4,or_false] at hf
  rcases hf with rfl|rfl|rfl
  .exact#[od,by show ds.length<=6000;omega,fun j hj=>(sd.cs j hj).1]
  .exact#[oc,by show cs.length<=6000;omega,fun j hj=>(sc.cs j hj).1]
  .exact#[oC,lC,fun j hj=>(sC.cs j hj).1]
 refine#[[(ds,k),(cs,m),(C,M)],2400,rfl,(by show 3<=3;decide),∅,hf,fun ts ta tl=>?_]
 have t1d:Tm1 ds ts:=ta.one (f:=(ds,k)) (fun f h=>(hf f h).1) (by simp)
 have t1c:Tm1 cs ts:=ta.one (f:=(cs,m)) (fun f h=>(hf f h).1) (by simp)
 have t1C:Tm1 C ts:=ta.one (f:=(C,M)) (fun f h=>(hf f h).1) (by simp)
 have ne:=t1c.ne
 have tz:∀i,i<ts.length->Sz 2400 (T ts i):=fun i hi=>by
  obtain⟨f,h,j,hj,e⟩:=ta.of (T ts i) (by rw[B8 hi];exact qA3 hi)
  rw[e]
  exact(hf f h).2.2 j hj
 have wl:=Wq.of (tz (ts.length-1) ())
 have pm:M<=k:=by
  have nn:=t1c.nn (show ts.length-1<ts.length from ())
  refine O5 (f0:=val C M (T ts (ts.length-1))) (g0:=val ds k (T ts (ts.length-1))) (a:=T ts (ts.length-1)) fun x hx=>?_
  have x0:0<=x:=⋯
  have e1:=t1C.line (m:=M) oC (show ts.length-1<ts.length from ()) hx (fun z=>absurd z ())
  have e2:=t1d.line (m:=k) od (show ts.length-1<ts.length from ()) hx (fun z=>absurd z ())
  rw[t1C.last oC] at e1
  rw[t1d.last od] at e2
  rw[<-e1,<-e2,vC x x0]
  have:=(vL x x0).2.2 x x0 qAc
  unfold gap at this
  grind
 have td:=t1d.more
 have tc:=t1c.more
 have tC:=t1C.more
 generalize eP:(ts.map (fun t=>((t.num,(t.den:Int),t):Int×Int×Rat))++[((T ts (ts.length-1)).num*1+1*((T ts (ts.length-1)).den:Int),((T ts (ts.length-1)).den:Int)*1,T ts (ts.length-1)+1)])=ps
 generalize eU:ts++[T ts (ts.length-1)+1]=us at td tc tC
 have ul:us.length=ts.length+1:=by rw[<-eU];simp
 have pl:ps.length=ts.length+1:=by rw[<-eP];simp
 have pw:∀n p,ps[n]? = some p->n<us.length/\Wq 2402 p.1 p.2.1 (T us n):=fun n p hp=>by
  rw[<-eP] at hp
  rw[ul]
  rw[<-eU]
  by_cases c:n<ts.length
  .rw[qAI (by rw[qAa];exact c),qAh,qAb c] at hp
   cases hp
   rw[T_l c,B8 c,<-B8 c]
   exact#[(),(Wq.of (tz n c)).mono ∅]
  .rw[qAK (by rw[qAa];omega),qAa] at hp
   have:n=ts.length:=by
    have:=(qAf.mp hp).1
    have:n-ts.length<1:=this
    omega
   subst this
   rw[qCy] at hp
   cases hp
   rw[T_r]
   exact#[(),wl.plus Wq.one]
 refine atR (TJ ne) ?_
 refine#[(by show 2<=1000;decide),?_]
 refine#[_,_,_,_,rfl,wl.l4 (Wq.one.mono ∅) ∅,?_]
 refine#[by rw[qAa];omega,?_]
 have ePD:ts.map qd++[tp ((T ts (ts.length-1)).num*1+1*((T ts (ts.length-1)).den:Int)) (((T ts (ts.length-1)).den:Int)*1)]=ps.map pD:=by
  rw[<-eP,qAB,qBt]
  rfl
 rw[show ts.map qd++[tp ((T ts (ts.length-1)).num*1+1*((T ts (ts.length-1)).den:Int)) (((T ts (ts.length-1)).den:Int)*1)]=ps.map pD from ePD]
 clear ePD eP
 have un:∀i,i<us.length->0<=T us i:=fun i hi=>tc.nn hi
 refine#[fun n τ=>∃(rs:List R6)(y5 y7 y8:Option S),τ=[some (.d (crv ds k)),some (.d (crv cs m)),some (.d (crv C M)),some (.l (rs.map S3)),some (.r (ps.map pD)),y5,none,y7,y8]/\rs.length=n/\∀i (hi:i<rs.length),RO ds k C M L K rs[i] (T us i),#[[],_,_,_,rfl,rfl,fun i hi=>absurd hi (qAZ i)],?_,?_]
 .rintro n τ x hx ⟨rs,y5,y7,y8,rfl,rl,ro⟩
  obtain⟨p,hp,rfl⟩:=Cd hx
  obtain⟨nl,wp⟩:=pw n p hp
  have x0:=un n nl
  have wp:=wp
  refine#[ds,k,T us n,_,_,2400,2402,rfl,od,(),∅,sd.cs,sd.m,wp,x0,fun A B w1=>?_]
  refine#[C,M,T us n,_,_,2400,2402,rfl,oC,(),∅,sC.cs,sC.m,wp,x0,fun A2 B2 w2=>?_]
  refine#[cs,m,T us n,_,_,2400,2402,rfl,oc,(),∅,sc.cs,sc.m,wp,x0,fun A3 B3 w3=>?_]
  refine#[_,_,_,_,rfl,w3.l4 w2 ∅,?_]
  have w4:=w3.minus w2
  rw[show val cs m (T us n)-val C M (T us n)=val L K (T us n) by rw[vC _ x0];grind] at w4
  refine#[(by show 3<=1000;decide),by rw[qAa];omega,?_]
  refine#[rs++[#[A,B,A2,B2,_,_]],_,_,_,by rw[qAB];rfl,by rw[qAn,rl];rfl,fun i hi=>?_]
  by_cases c:i<rs.length
  .rw[List.getElem_append_left c];exact ro i c
  .have:i=rs.length:=by rw[qAn] at hi;have:i<rs.length+1:=hi;omega
   subst this
   rw[List.getElem_append_right (qAd _)]
   simp only[qCy,List.getElem_cons_zero]
   rw[rl]
   exact#[w1,w2,w4]
 rintro τ ⟨rs,y5,y7,y8,rfl,rl,ro⟩
 rw[qAa,pl,<-ul] at rl
 clear pw wl
 have r0:0<rs.length:=()
 obtain⟨a0,b0,c0⟩:=ro 0 r0
 have u0:T us 0=0:=tc.t0
 rw[u0] at a0 b0 c0
 have L0:=vL 0 qAc
 refine#[?_,?_]
 .have wM:=Wq.of sC.m
  have wk:=Wq.of sd.m
  refine#[_,_,_,_,rfl,wM.l4 wk ∅,?_]
  refine IY (fun c=>absurd ((wM.le_iff wk).mpr pm) c) (fun _=>?_)
  refine atR (IP 0 rfl r0) ?_
  exact Cw (fun c=>absurd c (by have:=c0.nn L0.1;omega)) (fun _=>rfl)
 refine#[?_,?_]
 .refine atR (IP 0 rfl r0) ?_
  refine Cw (fun c=>?_) (fun _=>rfl)
  have pos:0<val L K 0:=((show Wq 1 0 1 0 from Wq.of Sz.zero).lt_iff c0).mp ()
  have e:val ds k 0=val C M 0:=by
   rw[vC 0 qAc]
   rcases L0.2.1 with z|⟨s,s0,s1,z⟩
   .grind
   .have:s=0:=⋯
    subst this
    unfold gap at z
    grind
  rw[<-e] at b0
  refine atR (IP 0 rfl r0) ?_
  refine atR (IP 0 rfl r0) ?_
  refine#[_,_,_,_,rfl,a0.l4 b0 ∅,?_]
  exact IY (fun c=>absurd (a0.cross b0) c) (fun _=>rfl)
 refine#[#[by rw[qAa];omega,by rw[qAa];omega],?_]
 refine#[fun n τ=>∃(y6:Option S),τ=[some (.d (crv ds k)),some (.d (crv cs m)),some (.d (crv C M)),some (.l (rs.map S3)),some (.r (ps.map pD)),y5,y6,y7,y8],#[_,rfl],?_,?_]
 .rintro n τ hn ⟨y6,rfl⟩
  rw[qAa] at hn
  have nl:n<rs.length:=()
  obtain⟨a1,b1,c1⟩:=ro n nl
  have x0:=un n ()
  have le:val C M (T us n)<=val ds k (T us n):=by
   rw[vC _ x0]
   have:=(vL _ x0).2.2 _ x0 qAc
   unfold gap at this
   grind
  refine atR (IP n () nl) ?_
  refine atR (IP n () nl) ?_
  refine#[_,_,_,_,rfl,b1.l4 a1 ∅,?_]
  exact IY (fun c=>absurd ((b1.le_iff a1).mpr le) c) (fun _=>#[_,rfl])
 rintro τ ⟨y6,rfl⟩
 refine#[#[∅,∅,by rw[qAa];omega,by rw[qAa];omega],?_]
 refine#[fun n τ=>∃(y6:Option S),τ=[some (.d (crv ds k)),some (.d (crv cs m)),some (.d (crv C M)),some (.l (rs.map S3)),some (.r (ps.map pD)),y5,y6,y7,y8],#[_,rfl],?_,?_]
 .rintro n τ hn ⟨y6,rfl⟩
  rw[qAa] at hn
  have n1:n+1<rs.length:=()
  have n0:n<rs.length:=()
  obtain⟨a1,b1,c1⟩:=ro n n0
  obtain⟨a2,b2,c2⟩:=ro (n+1) n1
  have x0:=un n ()
  have lt:=tc.up n ()
  have x1:=un (n+1) ()
  have i0:=IP (rs:=rs) (i:=1+n*1-1) n () n0
  have i1:=IP (rs:=rs) (i:=1+n*1) (n+1) () n1
  have le:=(vL _ x0).mono' (vL _ x1) (qAp lt)
  refine atR i0 ?_
  refine atR i1 ?_
  refine#[_,_,_,_,rfl,c1.l4 c2 ∅,?_]
  refine IY (fun c=>absurd ((c1.le_iff c2).mpr le) c) (fun _=>?_)
  refine atR i0 ?_
  refine atR i1 ?_
  refine#[_,_,_,_,rfl,c1.l4 c2 ∅,?_]
  refine IY (fun c=>?_) (fun _=>#[_,rfl])
  have df:val L K (T us n)≠val L K (T us (n+1)):=fun z=>by
   rw[z] at c1
   exact absurd (c1.cross c2) c
  have nl:n<us.length:=()
  have seg:∀x,T us n<=x->x<=T us (n+1)->(n+1<us.length->x<=T us (n+1)):=fun x _ h _=>h
  have G:=NV (h:=gap cs m ds k) (L:=val L K) (s:=sat cs m (T us n)-sat ds k (T us n)) (r:=sat cs m (T us n)-sat C M (T us n)) x0 lt vL (fun x h1 h2=>?_) (fun x h1 h2=>?_) df
  rotate_left
  .have e1:=tc.line (m:=m) oc nl h1 (seg x h1 h2)
   have e2:=td.line (m:=k) od nl h1 (seg x h1 h2)
   show val cs m x-val ds k x=val cs m (T us n)-val ds k (T us n)+_
   rw[e1,e2]
   grind
  .have e1:=tc.line (m:=m) oc nl h1 (seg x h1 h2)
   have e2:=tC.line (m:=M) oC nl h1 (seg x h1 h2)
   have f1:=vC x (qAY x0 h1)
   have f2:=vC (T us n) x0
   grind
  have q1:val ds k (T us n)=val C M (T us n):=by
   have:=G.1
   unfold gap at this
   rw[vC _ x0]
   grind
  have q2:val ds k (T us (n+1))=val C M (T us (n+1)):=by
   have:=G.2
   unfold gap at this
   rw[vC _ x1]
   grind
  rw[<-q1] at b1
  rw[<-q2] at b2
  refine atR i0 ?_
  refine atR i0 ?_
  refine#[_,_,_,_,rfl,a1.l4 b1 ∅,?_]
  refine IY (fun c=>absurd (a1.cross b1) c) (fun _=>?_)
  refine atR i1 ?_
  refine atR i1 ?_
  refine#[_,_,_,_,rfl,a2.l4 b2 ∅,?_]
  exact IY (fun c=>absurd (a2.cross b2) c) (fun _=>#[_,rfl])
 rintro τ ⟨y6,rfl⟩
 exact q
variable (Cj:Cal P w K mg base (CXU P w) 4 "_law_leaves" ["_law_coming","_law_offer","_law_leaving"] Ed)
theorem BH:Ae ["_law_offer","_law_leaving","_law_corners","_law_t","_law_last","_law_gap"] ["_law_offer","_law_leaving"] (Ac DJ):=scN
include Bh AD Aw Bv Bl in
theorem HC (F:Fun K "_law_spare" "_law_spare" DJ f fd):Az P w K mg base CX0 4 f fd ["_law_offer","_law_leaving"] (Ag K mg E9):=by
 refine fn3 F BH (fun ss R U h=>?_) (fun cdv A outer s H E ss R U hr h=>?_)
 .obtain⟨os,om,C,M,L,K,a,b,k,rfl,_⟩:=h;rfl
 obtain⟨os,om,C,M,L,K,a,b,k,rfl,oo,oC,⟨za,zam,zb,zbm⟩,to,tC,⟨lim,k24⟩,lo,lC,rL,v,q⟩:=h
 refine#[_,(Aa (AU 2 BH (Et FP))
  (Aa (Kx (Bq PassesOwn.never rfl (C4 (PE3.out (AK hr Bl (a1 (Et (a2 (vN 0) (vN 1))))))) (AH (i:=3) BH.nd rfl (Or.inl rfl)) (CY.out (Aa (AU 5 BH (AK hr Aw (a2 (AK hr Bv (a2 (vN 0) (vN 3))) (AK hr Bv (a2 (vN 1) (vN 3))))))
  (Ai (Fb (Bg (DR qAx qAy qAz AB (pv 2) (Ak (PE3.out (BP (a2 (vN 3) (AK hr AD (a2 (vK 5) (vK 5)))))) AA)))))))))
  (Aa (AU 4 BH (AK hr Aw (a2 (vK 0) (vK 1))))
  (BC (BP (a2 (JO (vN 2) rfl Bh) (AK hr AD (a2 (vK 4) (vK 4))))))))),?_]
 refine#[(by show 0<=1000;decide),(by show 2<=1000;decide),?_]
 have hf:∀f∈[(os,om),(C,M)],Ord f.1/\f.1.length<=6000/\∀j,j<f.1.length->Sz k (tt f.1 j):=fun f hf=>by
  simp only[qAk,qA4,or_false] at hf
  rcases hf with rfl|rfl
  .exact#[oo,lo,to]
  .exact#[oC,lC,tC]
 refine#[[(os,om),(C,M)],k,rfl,(by show 2<=3;decide),k24,hf,fun ts ta tl=>?_]
 have t1:Tm1 os ts:=ta.one (f:=(os,om)) (fun f h=>(hf f h).1) (by simp)
 have t2:Tm1 C ts:=ta.one (f:=(C,M)) (fun f h=>(hf f h).1) (by simp)
 have ne:=t1.ne
 have tz:∀t∈ts,0<=t/\Sz k t:=fun t ht=>by
  obtain⟨f,h,j,hj,e⟩:=ta.of t ht
  rw[e]
  exact#[KN (hf f h).1 hj,(hf f h).2.2 j hj]
 refine#[fun n τ=>∃y3 y4 y5:Option S,τ=[some (.d (crv os om)),some (.d (crv C M)),some (.l ((itp (ts.take n) (val L K)).map cd)),y3,y4,y5],#[_,_,_,rfl],?_,?_]
 .rintro n τ x hx ⟨y3,y4,y5,rfl⟩
  obtain⟨t,ht,rfl⟩:=Cd hx
  have nl:=(qAf.mp ht).1
  obtain⟨t0,zt⟩:=tz t (qAo ht)
  have wt:=Wq.of zt
  refine#[os,om,t,_,_,a,k,rfl,oo,(),(),za,zam,wt,t0,fun A1 B1 w1=>?_]
  refine#[C,M,t,_,_,b,k,rfl,oC,(),(),zb,zbm,wt,t0,fun A2 B2 w2=>?_]
  refine#[_,_,_,_,rfl,(w1.mono (show 6*a+k+4<=13000 from ())).l4 (w2.mono ()) ∅,?_]
  have w:=w1.minus2 w2
  rw[v t t0] at w
  refine#[_,_,rfl,w.pos,AJ w.la (),AJ w.lb (),(by show 2<=1000;decide),?_]
  rw[ON w]
  have e:(itp (ts.take n) (val L K)).map cd++[.tup [qd t,qd (val L K t)]]=(itp (ts.take (n+1)) (val L K)).map cd:=by
   rw[Pb,Pb,qCs,ht,qAB]
   rfl
  exact#[by rw[qAa,Cn,qAT];omega,some (.d (qd t)),y4,some (.d (tp (A1*B2-A2*B1) (B1*B2))),by rw[<-e];rfl]
 rintro τ ⟨y3,y4,y5,rfl⟩
 rw[qAa,List.take_length]
 have wo:=Wq.of zam
 have wM:=Wq.of zbm
 refine#[_,_,_,_,rfl,(wo.mono (show a<=13000 from ())).l4 (wM.mono ()) ∅,?_]
 have w:=wo.minus2 wM
 refine#[_,_,rfl,w.pos,AJ w.la (),AJ w.lb (),(by show 2<=1000;decide),?_]
 rw[ON w]
 obtain⟨I1,I2⟩:=Sh oo oC t1 t2 (t1.last oo) (t2.last oC) rL v
 refine q ts tz ?_ I1 I2
 have:=Gb (b:=(List.range os.length).map (tt os)++(List.range C.length).map (tt C)) (Q6 ta.asc) fun t ht=>by
  obtain⟨f,h,j,hj,e⟩:=ta.of t ht
  simp only[qAk,qA4,or_false] at h
  rcases h with rfl|rfl
  .exact qAu.mpr (.inl (qAL.mpr #[j,qAN.mpr hj,e.symm]))
  .exact qAu.mpr (.inr (qAL.mpr #[j,qAN.mpr hj,e.symm]))
 rw[qAn,qAa,qAa,qAt,qAt] at this
 exact this
variable (CQ:Cal P w K mg base (CXU P w) 4 "_law_spare" ["_law_offer","_law_leaving"] E9)
theorem BY:Ae ["_law_script","_law_begin","_law_streams","_law_houses","_law_found","_law_k","_law_cell","_law_first"] ["_law_script","_law_begin","_law_streams","_law_houses"] (Ac En):=scN
include Am Al in
theorem IM (F:Fun K "_law_ways" "_law_ways" En f fd):Az P w K mg base CX0 2 f fd ["_law_script","_law_begin","_law_streams","_law_houses"] (Ag K mg FH):=by
 refine fn3 F BY (fun ss R U h=>?_) (fun cdv A outer s H E ss R U hr h=>?_)
 .obtain⟨ns,b,s,h,rfl,_⟩:=h;rfl
 obtain⟨ns,b,s,h,rfl,b0,b1,s0,s1,h0,h1,q⟩:=h
 refine#[_,(Aa (AU 4 BY (Et FP))
  (Aa (Jb (Bq PassesOwn.never rfl (BL rfl Am (PA3.out (a1 (vN 2)))) (AH (i:=5) BY.nd rfl (Or.inl rfl)) (CY.out (Aa (AU 6 BY (AK hr Al (a2 (vN 0) (Ao A7 (vN 1) (vN 5)))))
  (Aa (AU 7 BY (Ao BQ (vN 6) (vN 3)))
  (Ai (Fb (Bg (DR qAx qAy qAz AB (pv 4) (Ak (PE3.out (BP (a2 (vN 7) (Ao A7 (vN 7) (Ao BQ (Ao Bi (vN 6) Ad) (Ao CB (vN 3) (vN 7))))))) AA))))))))))
  (Ai (E4 (pv 4))))),?_]
 refine#[(by show 0<=1000;decide),#[(),()],?_]
 refine#[fun n τ=>∃(ws:List (Nat×Nat))(y5 y6 y7:Option S),τ=[some (.r (ns.map D.int)),some (.d (.int b)),some (.d (.int s)),some (.d (.int h)),some (.l (ws.map wD)),y5,y6,y7]/\ws.length=n/\∀w∈ws,w.1<=w.2/\(w.2:Int)<h,#[[],_,_,_,rfl,rfl,fun x hx=>by cases hx],?_,?_]
 .rintro n τ hn ⟨ws,y5,y6,y7,rfl,lL,ok⟩
  refine#[ns,_,rfl,(),(),?_]
  generalize cl ns (b+(0+(n:Int)*1))=ce
  have f1:=fm (a:=ce) (show 0<h from ())
  have f2:=fm (a:=ce.fdiv 6) (show 0<h-ce.fmod h from ())
  obtain⟨a,ea⟩:∃a:Nat,ce.fmod h=(a:Int):=#[(ce.fmod h).toNat,()]
  obtain⟨d,ed⟩:∃d:Nat,ce.fmod h+(ce.fdiv 6).fmod (h-ce.fmod h)=((a+d:Nat):Int):=#[((ce.fdiv 6).fmod (h-ce.fmod h)).toNat,()]
  have ew:ws.map wD++[.tup [.int (ce.fmod h),.int (ce.fmod h+(ce.fdiv 6).fmod (h-ce.fmod h))]]=(ws++[(a,a+d)]).map wD:=by rw[qAB,ed,ea];rfl
  refine#[(),#[∅,Dg ∅],(),(by show 2<=1000;decide),by rw[qAa];omega,ws++[(a,a+d)],I (0+(n:Int)*1),I ce,I (ce.fmod h),by rw[<-ew];rfl,by rw[qAn,lL];rfl,fun w hw=>?_]
  rcases qAu.mp hw with hw|hw
  .exact ok w hw
  .rw[qAw.mp hw]
   show a<=a+d/\((a+d:Nat):Int)<h
   omega
 .rintro τ ⟨ws,y5,y6,y7,rfl,lL,ok⟩
  exact q ws () ok
variable (Ds:Cal P w K mg base (CXU P w) 2 "_law_ways" ["_law_script","_law_begin","_law_streams","_law_houses"] FH)
theorem Ce:Ae ["_law_script","_law_begin","_law_odd","_law_side","_law_cells","_law_start"] ["_law_script","_law_begin","_law_odd"] (Ac DX):=scN
include Al CI D0 in
theorem HP (F:Fun K "_law_story" "_law_story" DX f fd):Az P w K mg base CX0 3 f fd ["_law_script","_law_begin","_law_odd"] (Ag K mg EZ):=by
 refine fn3 F Ce (fun ss R U h=>?_) (fun cdv A outer s H E ss R U hr h=>?_)
 .obtain⟨ns,b,o,rfl,_⟩:=h;rfl
 obtain⟨ns,b,o,rfl,b0,b1,o1,q⟩:=h
 refine#[_,(Aa (AU 3 Ce (AK hr Al (a2 (vN 0) (vN 1))))
  (Aa (AU 4 Ce (AK hr D0 (Bc (vN 0) (a2 (Ao A7 (vN 1) Ad) (Ao A7 Ad (Ao BQ (Ao A7 (Ao Bi (vN 3) Ad) Ad) Ad))))))
  (Aa (AU 5 Ce (Ao A6 (Ao A6 (Ao BQ (vN 3) Ad) (vN 2)) (Ao A7 Ad (Ao BQ (Ao Bi (vN 3) Ad) (Ao Og Ad Ad)))))
  (BC (AK hr CI (Bc (Ao BQ (Ao Bi (vN 3) Ad) Ad) (Bc (vN 4) (a2 (vN 5) (Ao BQ (Ao Bi (vN 3) Ad) Ad))))))))),?_]
 have h6:(0:Int)<10^(6:Int).toNat:=∅
 have h61:(10:Int)^(6:Int).toNat=1000000:=∅
 refine#[ns,b,rfl,b0,(),?_]
 generalize cl ns b=sd
 have f3:=fm (a:=sd.fdiv 6+1) (show(0:Int)<3 from ∅)
 refine#[#[∅,Dg ∅],∅,ns,b+1,_,rfl,(),(),(),(),fun ms lm=>?_]
 have f2:=fm (a:=sd) (show(0:Int)<2 from ∅)
 have f6:=fm (a:=sd.fdiv 18) h6
 have f30:=fm (a:=sd.fdiv 3) (show(0:Int)<30 from ∅)
 have so:0<=sd.fmod 2*o/\sd.fmod 2*o<=1:=by
  rcases(show sd.fmod 2=0\/sd.fmod 2=1 from ()) with e|e<;>rw[e]<;>omega
 refine#[∅,Bd (m:=1) (n:=1) () () ∅,#[∅,Dg ∅],#[∅,∅,∅],qBu h6,Bd (m:=1) (n:=21) () (by rw[h61] at f6 ⊢;omega) ∅,?_]
 obtain⟨st,est,s0,s1⟩:∃st:Int,sd.fmod 2*o*(1+(sd.fdiv 18).fmod (10^(6:Int).toNat))=st/\0<=st/\st<=1000000:=by
  refine#[_,rfl,qBU so.1 (),?_]
  rw[h61] at f6 ⊢
  rcases(show sd.fmod 2*o=0\/sd.fmod 2*o=1 from ()) with e|e<;>rw[e]<;>omega
 rw[est]
 refine#[#[∅,Dg ∅],∅,#[∅,Dg ∅],∅,?_]
 exact#[_,ms,_,_,rfl,f30.1,f30.2,(),(),s0,s1,q]
variable (BW:Cal P w K mg base (CXU P w) 3 "_law_story" ["_law_script","_law_begin","_law_odd"] EZ)
theorem A0:Ae ["_law_offers","_law_comings","_law_ways_here","_law_found","_law_k","_law_now","_law_house","_law_offer","_law_leaving"] ["_law_offers","_law_comings","_law_ways_here","_law_found"] (Ac DO):=scN
include Ah Ar Am Cz CS Cj CQ in
theorem Hm (F:Fun K "_law_walks" "_law_walks" DO f fd):Az P w K mg base CX0 5 f fd ["_law_offers","_law_comings","_law_ways_here","_law_found"] (Ag K mg EA):=by
 refine fn3 F A0 (fun ss R U h=>?_) (fun cdv A outer s H E ss R U hr h=>?_)
 .obtain⟨t,U,NN,hs,cs,ws,r,a,rfl,_⟩:=h;rfl
 obtain⟨t,U,NN,hs,cs,ws,r,a,rfl,eL,hw,ok,lw,c12,h12,ru,q⟩:=h
 refine#[_,(GK (B0 (PW3.pt (Hk (w_not (Bb (FR .list (vN 3) rfl Ah rfl Cz qA5))) (D8 (Cy NU (BA Ar (vN 3)) (BA Ar (vN 2)))))) (BC GP) Ap)
  (Aa (Jb (Bq PassesOwn.never rfl (BL rfl Am (PA3.out (a1 (BA Ar (vN 2))))) (AH (i:=4) A0.nd rfl (Or.inl rfl)) (CY.out (Ai (B0 (PW3.pt (Hk (w_not (Bb (FR .list (AF (vN 3) (vN 4)) rfl Ah rfl Cz qA5))) (D8 (Cy NU (BA Ar (AF (vN 3) (vN 4))) (Ao A7 (Ao CB (AF (AF (vN 2) (vN 4)) Ad) (AF (AF (vN 2) (vN 4)) Ad)) Ad))))) (BC GP) Ap)))))
  (Aa (AU 5 A0 (Kg (vN 1) rfl Cz))
  (Aa (Jb (Bq PassesOwn.never rfl (BL rfl Am (PA3.out (a1 (BA Ar (vN 0))))) (AH (i:=6) A0.nd rfl (Or.inl rfl)) (CY.out (Aa (AU 7 A0 (AF (vN 0) (vN 6)))
  (Ai (Jb (Bq PassesOwn.never rfl (BL rfl Am (PA3.out (a1 (BA Ar (vN 2))))) (AH (i:=4) A0.nd rfl (Or.inl rfl)) (CY.out (Ai (B0 (PW3.pt (Jc (Cy Ut (AF (AF (vN 2) (vN 4)) Ad) (vN 6)) (Fz (Cy Ut (vN 6) (AF (AF (vN 2) (vN 4)) Ad))))) (Aa (AU 8 A0 (AF (AF (vN 3) (vN 4)) (Ao CB (vN 6) (AF (AF (vN 2) (vN 4)) Ad))))
  (GK (B0 (PW3.pt (Hk (w_not (Bb (AK hr CS (a1 (vN 8))))) (D8 (w_not (Bb (AK hr Cj (Bc (AF (vN 5) (vN 4)) (a2 (vN 7) (vN 8))))))))) (BC GP) Ap)
  (Aa (AU 7 A0 (AK hr CQ (a2 (vN 7) (vN 8))))
  (Ai (RT (Pk (PE3.out (vN 8)) (OM (pv 5) (PE3.out (vN 4)) KQ))))))) Ap))))))))))
  (BC GP))))),?_]
 have g0:=ok.g0
 have g6:=ok.g6
 have wat:∀k,k<cs.length->ws[k]? = some (ws.getD k (0,0)):=fun k hk=>by rw[qAg,qAb (show k<ws.length from ())];rfl
 have wok:∀k,k<cs.length->(ws.getD k (0,0)).1<=(ws.getD k (0,0)).2/\(ws.getD k (0,0)).2<hs.length:=fun k hk=>hw _ (qAo (wat k hk))
 have e1:((((List.range cs.length).map fun k=>lvD a k (ws.getD k (0,0))).length:Nat):Int)=((ws.map wD).length:Nat):=by rw[qAa,qAa,qAt,eL]
 refine#[#[trivial,IY (fun ne=>absurd e1 ne) (fun _=>rfl)],?_]
 have lW:(ws.map wD).length=cs.length:=by rw[qAa,eL]
 have lH:(hs.map crP).length=hs.length:=qAa _
 refine#[#[(),()],?_]
 refine#[fun n τ=>∃y4:Option S,τ=[some (.r (hs.map crP)),some (.r (cs.map crP)),some (.r (ws.map wD)),some (.r ((List.range cs.length).map fun k=>lvD a k (ws.getD k (0,0)))),y4,none,none,none,none],#[_,rfl],?_,?_]
 .rintro n τ hn ⟨y4,rfl⟩
  have nl:n<cs.length:=()
  have af:=Ir (f:=fun k=>lvD a k (ws.getD k (0,0))) (m:=cs.length) (i:=0+(n:Int)*1) n () nl
  have aw:=JJ (f:=wD) (i:=0+(n:Int)*1) n () (wat n nl)
  have w1:=wok n nl
  refine atR af ?_
  refine#[trivial,?_]
  refine atR af ?_
  refine atR aw ?_
  refine atR aw ?_
  refine IY (fun ne=>absurd ?_ ne) (fun _=>#[_,rfl])
  show((((List.range ((ws.getD n (0,0)).2-(ws.getD n (0,0)).1+1)).map _).length:Nat):Int)=_
  rw[qAa,qAt]
  omega
 rintro τ ⟨y4,rfl⟩
 have s0:cs.map crP=(List.range cs.length).map fun k=>crP (a k (cpW (ws.getD k (0,0)) 0)):=by
  rw[Mi]
  refine qA7 fun k hk=>?_
  rw[qAN] at hk
  have:=ru.a0 k _ hk (wat k hk)
  rw[qAg,this]
  show crP (a k _)=_
  congr 2
  unfold cpW
  omega
 refine#[#[(),()],?_]
 refine#[fun n τ=>∃y4 y6 y7 y8:Option S,τ=[some (.r (hs.map crP)),some (.r (cs.map crP)),some (.r (ws.map wD)),some (.r ((List.range cs.length).map fun k=>lvD a k (ws.getD k (0,0)))),y4,some (.l ((List.range cs.length).map fun k=>crP (a k (cpW (ws.getD k (0,0)) n)))),y6,y7,y8],#[y4,none,none,none,by rw[<-s0];rfl],?_,?_]
 .clear s0
  rintro n τ hn ⟨y4,y6,y7,y8,rfl⟩
  have nh:n<hs.length:=()
  refine atR (JJ (f:=crP) (i:=0+(n:Int)*1) n () (ru.r0 n nh)) ?_
  refine#[#[(),()],?_]
  have z0:=ru.zr 0 n (qAS _) nh
  have O0:Of (U 0 n) (NN 0 n) (r 0 n) (r 0 n).1 (r 0 n).2:=#[(C3 z0.1.c).o,fun _ _=>rfl,rfl,fun i hi=>((z0.ls g0 g6).tm i hi).mono (lw.u0 n nh).1,qAG z0.2 (lw.u0 n nh).2]
  refine#[fun j τ=>∃(os:Cs)(om:Rat)(y4 y8:Option S),τ=[some (.r (hs.map crP)),some (.r (cs.map crP)),some (.r (ws.map wD)),some (.r ((List.range cs.length).map fun k=>lvD a k (ws.getD k (0,0)))),y4,some (.l ((List.range cs.length).map fun k=>crP (a k (cpW (ws.getD k (0,0)) (if k<j then n+1 else n))))),I (0+(n:Int)*1),some (.d (crv os om)),y8]/\j<=cs.length/\Of (U j n) (NN j n) (r j n) os om,#[_,_,y4,y8,rfl,qAS _,O0],?_,?_]
  .rintro j τ hj ⟨os,om,y4,y8,rfl,jl',O⟩
   have jl:j<cs.length:=()
   have hv:=wat j jl
   have w1:=wok j jl
   have aw:=JJ (f:=wD) (i:=0+(j:Int)*1) j () hv
   obtain⟨u1,u2,u3⟩:=lw.u j jl n nh
   have np:¬((ws.getD j (0,0)).1<=n/\n<=(ws.getD j (0,0)).2)->((List.range cs.length).map fun k=>crP (a k (cpW (ws.getD k (0,0)) (if k<j then n+1 else n))))=((List.range cs.length).map fun k=>crP (a k (cpW (ws.getD k (0,0)) (if k<j+1 then n+1 else n))))/\Of (U (j+1) n) (NN (j+1) n) (r (j+1) n) os om:=fun no=>by
    refine#[qA7 fun k _=>?_,?_]
    .congr 2
     by_cases e:k=j
     .subst e
      rw[if_neg (qAW _),if_pos (qBs _)]
      unfold cpW
      omega
     .by_cases c:k<j
      .rw[if_pos c,if_pos ()]
      .rw[if_neg c,if_neg ()]
    .rw[ru.stay j _ n jl hv no]
     exact#[O.o,O.v,O.m,fun i hi=>(O.t i hi).mono u1,qAG O.n ()]
   refine atR aw ?_
   refine Cw (fun c1=>?_) (fun c1=>?_)
   rotate_left
   .obtain⟨x1,x2⟩:=np (fun z=>c1 ())
    exact#[os,om,_,y8,by rw[<-x1];rfl,jl,x2]
   refine atR aw ?_
   refine Cw (fun c2=>?_) (fun c2=>?_)
   rotate_left
   .obtain⟨x1,x2⟩:=np (fun z=>c2 ())
    exact#[os,om,_,y8,by rw[<-x1];rfl,jl,x2]
   clear np
   have h1:(ws.getD j (0,0)).1<=n:=()
   have h2:n<=(ws.getD j (0,0)).2:=()
   refine atR (Ir (f:=fun k=>lvD a k (ws.getD k (0,0))) (m:=cs.length) (i:=0+(j:Int)*1) j () jl) ?_
   refine atR aw ?_
   refine atR (Ir (f:=fun i=>crP (a j ((ws.getD j (0,0)).1+i+1))) (m:=(ws.getD j (0,0)).2-(ws.getD j (0,0)).1+1) (n-(ws.getD j (0,0)).1) () ()) ?_
   have en:(ws.getD j (0,0)).1+(n-(ws.getD j (0,0)).1)+1=n+1:=()
   rw[en]
   have S:=ru.stp j _ n jl hv h1 h2
   have zA:=ru.za j _ n jl hv h1 ()
   have zC:=ru.za j _ (n+1) jl hv () ()
   have zR:=ru.zr j n () nh
   obtain⟨l1,l2,l3,l4,l5,l6,l7⟩:=lw.l j jl n nh
   obtain⟨sA,mA⟩:=zA.1.l.szc g0 g6 zA.1.c
   obtain⟨sC,mC⟩:=zC.1.l.szc g0 g6 zC.1.c
   obtain⟨sO,mO⟩:=O.szc zR g0 g6
   have nA:=zA.2
   have nC:=zC.2
   have nO:=O.n
   have oC:=(C3 S.kc).o
   have oA:=(C3 zA.1.c).o
   have kA:KL (a j n).1 (a j n).2:=#[oA,#[(),sA.mono l3,mA.mono l3],()]
   have kC:KL (a j (n+1)).1 (a j (n+1)).2:=#[oC,#[(),sC.mono l4,mC.mono l4],()]
   have kO:KL os om:=#[O.o,#[(),sO.mono (),mO.mono ()],()]
   have en2:cpW (ws.getD j (0,0)) (if j<j then n+1 else n)=n:=by
    rw[if_neg (qAW _)]
    unfold cpW
    omega
   have anow:=Ir (f:=fun k=>crP (a k (cpW (ws.getD k (0,0)) (if k<j then n+1 else n)))) (m:=cs.length) (i:=0+(j:Int)*1) j () jl
   simp only[en2] at anow
   refine#[#[_,_,rfl,S.kc,kC.2.1,atR anow #[_,_,os,om,(r (j+1) n).1,(r (j+1) n).2,_,_,rfl,kO,kA,S.kl,fun x x0=>(S.h x x0).cong fun s s0 _=>by unfold gap;rw[O.v s s0],S.kc,fun x x0=>by rw[O.v x x0];exact S.v x x0,kC,rfl]],?_]
   refine#[os,om,_,_,(r (j+1) n).1,(r (j+1) n).2,_,_,U (j+1) n,rfl,O.o,oC,#[sO,mO,sC,mC],fun i hi=>(O.t i hi).mono u1,fun i hi=>((zC.ls g0 g6).tm i hi).mono u2,#[l1,l2],(),(),C3 S.kl,fun x x0=>by rw[O.v x x0,S.v x x0];grind,fun ts tz tl o2 v2=>?_]
   have oL:=(C3 S.kl).o
   have em:om-(a j (n+1)).2=(r (j+1) n).2:=qBz (Kt o2 oL fun x x0=>by rw[v2 x x0];exact qAc) (Kt oL o2 fun x x0=>by rw[v2 x x0];exact qAc)
   have O2:Of (U (j+1) n) (NN (j+1) n) (r (j+1) n) (itp ts (val (r (j+1) n).1 (r (j+1) n).2)) (om-(a j (n+1)).2):=#[o2,v2,em,fun i hi=>by
    rw[Cn] at hi
    rw[(B7 hi).1,B8 hi]
    exact(tz _ (qA3 hi)).2,by rw[Cn];omega]
   have ls:((List.range cs.length).map fun k=>crP (a k (cpW (ws.getD k (0,0)) (if k<j then n+1 else n)))).set j (crP (a j (n+1)))=(List.range cs.length).map fun k=>crP (a k (cpW (ws.getD k (0,0)) (if k<j+1 then n+1 else n))):=LI jl (by
    rw[if_pos (qBs _)]
    congr 2
    unfold cpW
    omega) fun k hk=>by
    by_cases c:k<j
    .rw[if_pos c,if_pos ()]
    .rw[if_neg c,if_neg ()]
   refine#[j,Sg () (by rw[qAa,qAt];exact jl),?_]
   exact#[_,_,I (0+(j:Int)*1),some (.d (crP (a j (n+1)))),by rw[<-ls];rfl,jl,O2]
  .rintro τ ⟨os,om,y4,y8,rfl,jl,O⟩
   have le:((List.range cs.length).map fun k=>crP (a k (cpW (ws.getD k (0,0)) (if k<(((ws.map wD).length:Nat):Int).toNat then n+1 else n))))=(List.range cs.length).map fun k=>crP (a k (cpW (ws.getD k (0,0)) (n+1))):=qA7 fun k hk=>by
    rw[qAN] at hk
    rw[if_pos ()]
   exact#[y4,I (0+(n:Int)*1),some (.d (crv os om)),y8,by rw[<-le]]
 rintro τ ⟨y4,y6,y7,y8,rfl⟩
 exact q
variable (CD:Cal P w K mg base (CXU P w) 5 "_law_walks" ["_law_offers","_law_comings","_law_ways_here","_law_found"] EA)
theorem Fw:Ae ["_law_script","_law_begin","_law_odd","_law_many","_law_cell"] ["_law_script","_law_begin","_law_odd","_law_many"] (Ac Ep):=scN
include Al in
theorem IF (F:Fun K "_law_flat" "_law_flat" Ep f fd):Az P w K mg base CX0 2 f fd ["_law_script","_law_begin","_law_odd","_law_many"] (Ag K mg FC):=by
 refine fn3 F Fw (fun ss R U h=>?_) (fun cdv A outer s H E ss R U hr h=>?_)
 .obtain⟨ns,b,o,m,rfl,_⟩:=h;rfl
 obtain⟨ns,b,o,m,rfl,b0,b1,o1,m1,m2,q⟩:=h
 refine#[_,(Aa (AU 4 Fw (AK hr Al (a2 (vN 0) (vN 1))))
  (BC (BP (a2 (BP (a1 (BP (a2 (BP (a2 Ad Ad)) (BP (a2 (Ao A6 (vN 2) (Ao BQ (Ao Bi (vN 4) Ad) (Ao Og Ad Ad))) Ad)))))) (BP (a2 (Ao A6 (Ao BQ (vN 4) Ad) (vN 3)) Ad)))))),?_]
 have h6:(0:Int)<10^(6:Int).toNat:=∅
 have h61:(10:Int)^(6:Int).toNat=1000000:=∅
 refine#[ns,b,rfl,b0,(),?_]
 generalize cl ns b=sd
 have f6:=fm (a:=sd.fdiv 7) h6
 have f7:=fm (a:=sd) (show(0:Int)<7 from ∅)
 have x0:0<=o*(sd.fdiv 7).fmod (10^(6:Int).toNat)/\o*(sd.fdiv 7).fmod (10^(6:Int).toNat)<=1000000:=by
  rw[h61] at f6 ⊢
  rcases o1 with rfl|rfl<;>omega
 have y0:=qBU f7.1 (show 0<=m from ())
 have y1:=qBV (show sd.fmod 7<=6 from ()) m2 () ∅
 refine#[(by show 2<=1000;decide),#[∅,Dg ∅],#[∅,∅,∅],qBu h6,Bd (m:=1) (n:=20) () (by rw[h61] at f6 ⊢;omega) ∅,(by show 2<=1000;decide),(by show 2<=1000;decide),(by show 1<=1000;decide),∅,Bd (m:=3) (n:=4) () () ∅,(by show 2<=1000;decide),(by show 2<=1000;decide),?_]
 exact q _ _ x0.1 x0.2 (fun e=>by rw[e];omega) y0 (qBV (show sd.fmod 7<=6 from ()) (Int.le_refl m) () ∅)
variable (Cr:Cal P w K mg base (CXU P w) 2 "_law_flat" ["_law_script","_law_begin","_law_odd","_law_many"] FC)
theorem CN:Ae ["_law_script","_law_seed","_law_houses","_law_streams","_law_offers","_law_comings","_law_ways_here","_law_handed","_law_found","_law_kept"] ["_law_script"] (Ac FJ):=scN
include Fo Am Cz MR Al Ds BW CD Cr in
theorem SM (F:Fun K "law" "law" FJ f fd):Az P w K mg base CX0 13 f fd ["_law_script"] (Ag K mg Rl):=by
 refine fn3 F CN (fun ss R U h=>?_) (fun cdv A outer s H E ss R U hr h=>?_)
 .obtain⟨ns,rfl,_⟩:=h;rfl
 obtain⟨ns,rfl,hl,q⟩:=h
 refine#[_,(Aa (AU 1 CN (AK hr Al (a2 (vN 0) Ad)))
  (Aa (AU 2 CN (Ao A7 Ad (Ao BQ (Ao A7 (vN 1) Ad) Ad)))
  (BV (AU 3 CN (Ao A7 Ad (Ao BQ (Ao A7 (Ao Bi (vN 1) Ad) Ad) Ad)))
  (BV (He (i:=4) (N:=["_law_k","_law_script","_law_seed"]) (idx:=[0,1]) (Bo.mk' (Ac FJ) ["_law_script","_law_seed","_law_houses","_law_streams","_law_offers","_law_comings","_law_ways_here","_law_handed","_law_found","_law_kept"] rfl rfl (by decide +kernel)) rfl (BL rfl Am (PA3.out (a1 (vN 2)))) FY (fun cl C s₀ H₀ fp=>Dm) (fun cl C s₀ H₀ fp=>(AK hr BW (Bc (vN 1) (a2 (Ao A7 Ad (Ao A6 Ad (vN 0))) (NR R4 rfl Fo qBD (a1 (Lq Iq (Ao BQ (Ao Bi (vN 2) Ad) Ad) Ad (Ej _)))))))) CN.nd rfl (Or.inl rfl))
  (BV (He (i:=5) (N:=["_law_k","_law_script"]) (idx:=[0]) (Bo.mk' (Ac FJ) ["_law_script","_law_seed","_law_houses","_law_streams","_law_offers","_law_comings","_law_ways_here","_law_handed","_law_found","_law_kept"] rfl rfl (by decide +kernel)) rfl (BL rfl Am (PA3.out (a1 (vN 3)))) FY (fun cl C s₀ H₀ fp=>Dm) (fun cl C s₀ H₀ fp=>(AK hr BW (Bc (vN 1) (a2 (Ao A7 Ad (Ao A6 Ad (vN 0))) Ad)))) CN.nd rfl (Or.inl rfl))
  (BV (B0 (Cy Iq (Ao BQ (Ao Bi (vN 1) Ad) Ad) Ad) (Aa (AU 2 CN (AF (Et (Bc Ad (a2 Ad Ad))) (Ao BQ (Ao Bi (vN 1) Ad) Ad)))
  (BV (AU 3 CN (AF (Et (Bc Ad (a2 Ad Ad))) (Ao BQ (Ao Bi (vN 1) Ad) Ad)))
  (BV (He (i:=4) (N:=["_law_k","_law_script","_law_streams"]) (idx:=[0,3]) (Bo.mk' (Ac FJ) ["_law_script","_law_seed","_law_houses","_law_streams","_law_offers","_law_comings","_law_ways_here","_law_handed","_law_found","_law_kept"] rfl rfl (by decide +kernel)) rfl (BL rfl Am (PA3.out (a1 (vN 2)))) FY (fun cl C s₀ H₀ fp=>Dm) (fun cl C s₀ H₀ fp=>(AK hr Cr (Bc (vN 1) (Bc (Ao A7 Ad (vN 0)) (a2 Ad (vN 2)))))) CN.nd rfl (Or.inl rfl))
  (Ai (He (i:=5) (N:=["_law_k","_law_script"]) (idx:=[0]) (Bo.mk' (Ac FJ) ["_law_script","_law_seed","_law_houses","_law_streams","_law_offers","_law_comings","_law_ways_here","_law_handed","_law_found","_law_kept"] rfl rfl (by decide +kernel)) rfl (BL rfl Am (PA3.out (a1 (vN 3)))) FY (fun cl C s₀ H₀ fp=>Dm) (fun cl C s₀ H₀ fp=>(AK hr Cr (Bc (vN 1) (Bc (Ao A7 Ad (vN 0)) (a2 Ad Ad))))) CN.nd rfl (Or.inl rfl)))))) Ap)
  (BV (AU 6 CN (AK hr Ds (Bc (vN 0) (Bc Ad (a2 (vN 3) (vN 2))))))
  (Qg (i1:=2) (i2:=3) (Bw (MH (i:=7) CN.nd rfl (Or.inl rfl) (Mg (Ak (Co BZ rfl Cz qA5 (Ak (pv 4) AA)) (Ak (Co BZ rfl Cz qA5 (Ak (pv 5) AA)) (Ak (Co BZ rfl Cz qA5 (Ak (pv 6) AA)) AA)))))
  (Bw (MH (i:=8) CN.nd rfl (Or.inl rfl) (QD hr MR (Ak (GG (CW.or Ek) (pv 7) DF (fun _ _=>rfl)) (Ak (GG (CW.or Ek) (pv 7) DF (fun _ _=>rfl)) (Ak (GG (CW.or Ek) (pv 7) DF (fun _ _=>rfl)) AA)))))
  (Bw (QY ((Ss (Jv (Qq 4 (UQ hr ∅)) (pv 7) (Mg (Ak (pv 4) (Ak (pv 5) (Ak (pv 6) AA)))) (Ej _)) (OS (OZ (OL (QD hr CD (Ak (pv 4) (Ak (pv 5) (Ak (pv 6) (Ak (pv 8) AA))))))))) _) (Bw (IL NB) Fn) Fn)
  (Bw (QY (Jv Q8 (Qv Rk (pv 2) (pv 3)) DF (Ej _)) (Bw (IL NB) Fn) Fn)
  (Bw (Fj (i:=9) (N:=["_law_row"]) (idx:=[]) (Bo.mk' (Ac FJ) ["_law_script","_law_seed","_law_houses","_law_streams","_law_offers","_law_comings","_law_ways_here","_law_handed","_law_found","_law_kept"] rfl rfl (by decide +kernel)) rfl (C4 (pv 8)) (fun cl C s₀ H₀ fp=>J4) (fun cl C s₀ H₀ fp=>(Co BZ rfl Cz qA5 (Ak (pv 0) AA))) CN.nd rfl (Or.inl rfl))
  (Bw (Bg (DR qAx qAy qAz AB (GG (CW.or Ek) (pv 8) DF (fun _ _=>rfl)) (Ak (GG (CW.or Ek) (GG (CW.or Ek) (pv 8) DF (fun _ _=>rfl)) DF (fun _ _=>rfl)) AA)))
  (Bw (Bg (DR qAx qAy qAz AB (pv 8) (Ak (Mg AA) AA)))
  (Bw (IL (Nb (QR 4 (UQ hr ∅)) (QD hr MR (Ak (GG (CW.or Ek) (pv 7) DF (fun _ _=>rfl)) (Ak (GG (CW.or Ek) (pv 7) DF (fun _ _=>rfl)) (Ak (GG (CW.or Ek) (pv 7) DF (fun _ _=>rfl)) AA)))) (pv 9) (Ej _)))
  Fn)))))))) ∅ #[by show 7<10;decide,by show 8<10;decide,by show 9<10;decide] Vq)))))))),?_]
 refine#[ns,0,rfl,∅,∅,?_]
 generalize cl ns 0=sd
 have f3:=fm (a:=sd+1) (show(0:Int)<3 from ∅)
 have f4:=fm (a:=sd.fdiv 3+1) (show(0:Int)<3 from ∅)
 refine#[∅,?_]
 refine#[fun τ=>∃hn_ sn:Int,τ=[some (.r (ns.map D.int)),I sd,I hn_,I sn,none,none,none,none,none,none]/\1<=hn_/\hn_<=3/\1<=sn/\sn<=3,#[#[∅,Dg ∅],∅,_,_,rfl,(),(),(),()],?_]
 clear f3 f4
 rintro τ ⟨hn_,sn,rfl,a1,a2,b1,b2⟩
 refine#[fun τ=>∃hs:List Cq,τ=[some (.r (ns.map D.int)),I sd,I hn_,I sn,some (.l (hs.map crP)),none,none,none,none,none]/\(hs.length:Int)=hn_/\∀x∈hs,KW x.1 x.2,?_,?_]
 .refine#[#[(),()],fun n ds=>∃ps:List Cq,ds=ps.map crP/\ps.length=n/\∀p∈ps,(fun p:Cq=>KW p.1 p.2) p,#[[],rfl,rfl,fun p h=>nomatch h],fun n ds h=>?_,fun n x ds hx h=>?_,by rw[AV];omega,fun ds h=>?_]
  .obtain⟨ps,rfl,e,_⟩:=h
   rw[qAa]
   omega
  .obtain⟨hn,rfl⟩:=C6 hx
   obtain⟨ps,rfl,e,hp⟩:=h
   refine#[PySem.IntMulOk.of_left ∅,#[∅,Dg ∅],∅,?_]
   refine#[ns,_,_,rfl,(),(),by split<;>simp,fun cs m kw=>?_]
   refine#[ps++[(cs,m)],by rw[qAB];rfl,by rw[qAn,e];rfl,fun p h=>?_]
   rcases qAu.mp h with h|h
   .exact hp p h
   .rw[qAw.mp h];exact kw
  obtain⟨ps,rfl,e,hp⟩:=h
  rw[AV] at e
  exact#[ps,rfl,(),hp]
 rintro τ ⟨hs,rfl,eh,kh⟩
 refine#[fun τ=>∃cs:List Cq,τ=[some (.r (ns.map D.int)),I sd,I hn_,I sn,some (.l (hs.map crP)),some (.l (cs.map crP)),none,none,none,none]/\(cs.length:Int)=sn/\∀x∈cs,KW x.1 x.2,?_,?_]
 .refine#[#[(),()],fun n ds=>∃ps:List Cq,ds=ps.map crP/\ps.length=n/\∀p∈ps,(fun p:Cq=>KW p.1 p.2) p,#[[],rfl,rfl,fun p h=>nomatch h],fun n ds h=>?_,fun n x ds hx h=>?_,by rw[AV];omega,fun ds h=>?_]
  .obtain⟨ps,rfl,e,_⟩:=h
   rw[qAa]
   omega
  .obtain⟨hn,rfl⟩:=C6 hx
   obtain⟨ps,rfl,e,hp⟩:=h
   refine#[PySem.IntMulOk.of_left ∅,?_]
   refine#[ns,_,_,rfl,(),(),.inr rfl,fun cs m kw=>?_]
   refine#[ps++[(cs,m)],by rw[qAB];rfl,by rw[qAn,e];rfl,fun p h=>?_]
   rcases qAu.mp h with h|h
   .exact hp p h
   .rw[qAw.mp h];exact kw
  obtain⟨ps,rfl,e,hp⟩:=h
  rw[AV] at e
  exact#[ps,rfl,(),hp]
 rintro τ ⟨cs,rfl,ec,kc⟩
 refine#[fun τ=>∃(t:Tab)(U NN:Nat->Nat->Nat)(hn_ sn:Int)(hs cs:List Cq),τ=[some (.r (ns.map D.int)),I sd,I hn_,I sn,some (.l (hs.map crP)),some (.l (cs.map crP)),none,none,none,none]/\(hs.length:Int)=hn_/\(cs.length:Int)=sn/\0<cs.length/\In0 t U NN hs cs,?_,?_]
 .refine#[#[∅,Dg ∅],∅,?_]
  refine Cw (fun _=>?_) (fun _=>#[tG,uG,nG,hn_,sn,hs,cs,rfl,eh,ec,(),Th kh kc () ()])
  have f:=fm (a:=sd.fdiv 216) (show(0:Int)<3 from ∅)
  refine#[(by show 3<=1000;decide),#[∅,Dg ∅],∅,?_]
  refine atR (at3 f) ?_
  refine#[fun τ=>τ=[some (.r (ns.map D.int)),I sd,I (pk 12 1 4 ((sd.fdiv 216).fmod 3)),I (pk 1 12 4 ((sd.fdiv 216).fmod 3)),some (.l (hs.map crP)),some (.l (cs.map crP)),none,none,none,none],#[(by show 3<=1000;decide),#[∅,Dg ∅],∅,atR (at3 f) rfl],?_]
  rintro τ rfl
  generalize (sd.fdiv 216).fmod 3=x at f ⊢
  obtain⟨p1,p2,p3,p4⟩:=VJ (x:=x)
  refine#[fun τ=>∃hs:List Cq,τ=[some (.r (ns.map D.int)),I sd,I (pk 12 1 4 x),I (pk 1 12 4 x),some (.l (hs.map crP)),some (.l (cs.map crP)),none,none,none,none]/\(hs.length:Int)=pk 12 1 4 x/\∀y∈hs,FL (pk 1 12 4 x) false y,?_,?_]
  .refine#[#[(),()],fun n ds=>∃ps:List Cq,ds=ps.map crP/\ps.length=n/\∀p∈ps,(FL (pk 1 12 4 x) false) p,#[[],rfl,rfl,fun p h=>nomatch h],fun n ds h=>?_,fun n x ds hx h=>?_,by rw[AV];omega,fun ds h=>?_]
   .obtain⟨ps,rfl,e,_⟩:=h
    rw[qAa]
    omega
   .obtain⟨hn,rfl⟩:=C6 hx
    obtain⟨ps,rfl,e,hp⟩:=h
    refine#[ns,_,0,_,rfl,(),(),.inl rfl,(),(),fun v s v0 v1 ve s0 s1=>?_]
    refine#[ps++[([(0,(v:Rat))],(s:Rat))],by rw[qAB];rfl,by rw[qAn,e];rfl,fun p h=>?_]
    rcases qAu.mp h with h|h
    .exact hp p h
    .rw[qAw.mp h];exact#[v,s,rfl,v0,v1,fun _=>ve rfl,s0,s1]
   obtain⟨ps,rfl,e,hp⟩:=h
   rw[AV] at e
   exact#[ps,rfl,(),hp]
  rintro τ ⟨hs,rfl,eh,kh⟩
  refine#[#[(),()],fun n ds=>∃ps:List Cq,ds=ps.map crP/\ps.length=n/\∀p∈ps,(FL 1 true) p,#[[],rfl,rfl,fun p h=>nomatch h],fun n ds h=>?_,fun n x ds hx h=>?_,by rw[AV];omega,fun ds h=>?_]
  .obtain⟨ps,rfl,e,_⟩:=h
   rw[qAa]
   omega
  .obtain⟨hn,rfl⟩:=C6 hx
   obtain⟨ps,rfl,e,hp⟩:=h
   refine#[ns,_,1,1,rfl,(),(),.inr rfl,∅,∅,fun v s v0 v1 ve s0 s1=>?_]
   refine#[ps++[([(0,(v:Rat))],(s:Rat))],by rw[qAB];rfl,by rw[qAn,e];rfl,fun p h=>?_]
   rcases qAu.mp h with h|h
   .exact hp p h
   .rw[qAw.mp h];exact#[v,s,rfl,v0,v1,fun e=>(nomatch e),s0,s1]
  obtain⟨ps,rfl,e,hp⟩:=h
  rw[AV] at e
  obtain⟨t,U,NN,i0⟩:=Tn f kh hp eh ()
  exact#[t,U,NN,_,_,hs,ps,rfl,eh,(),by have:=VA f;omega,i0]
 rintro τ ⟨t,U,NN,hn_,sn,hs,cs,rfl,eh,ec,cp,I0⟩
 have c12:=I0.c12
 have h12:=I0.h12
 refine#[fun τ=>∃ws:List (Nat×Nat),τ=[some (.r (ns.map D.int)),I sd,I hn_,I sn,some (.l (hs.map crP)),some (.l (cs.map crP)),some (.l (ws.map wD)),none,none,none]/\In t U NN hs cs ws,?_,?_]
 .exact#[ns,1,_,_,rfl,∅,∅,(),(),(),(),fun ws ew hw=>#[ws,rfl,(),fun w h=>#[(hw w h).1,by have:=(hw w h).2;omega],I0.ok,I0.lim,I0.lw,I0.h,I0.c,c12,h12.2]]
 rintro τ ⟨ws,rfl,i⟩
 have gw:∀k,k<cs.length->ws[k]? = some (ws.getD k (0,0)):=fun k kl=>by
  rw[qAg,qAb (by rw[i.e];exact kl)];rfl
 have wk:∀k,k<cs.length->(ws.getD k (0,0)).1<=(ws.getD k (0,0)).2/\(ws.getD k (0,0)).2<hs.length:=fun k kl=>i.w _ (qAo (gw k kl))
 have ih:=i.h12
 refine#[_,_,_,_,_,fun rows=>∃r a,Run t hs cs ws cs.length r a/\rows=(List.range cs.length).map fun k=>lvL a k (ws.getD k (0,0)),rfl,rfl,rfl,rfl,rfl,#[fun x hx=>?_,fun x hx=>?_,fun x hx=>?_],#[?_,?_,?_],#[(),()],#[t,hs,cs,ws,rfl,i.e,i.w,i.ok,i.lim,i.h,i.c,i.c12,i.h12,fun r a hR=>#[_,by rw[qBt];rfl,r,a,hR,rfl]],?_,q]
 .obtain⟨c,_,rfl⟩:=qAL.mp hx;exact Ud _
 .obtain⟨c,_,rfl⟩:=qAL.mp hx;exact Ud _
 .obtain⟨c,_,rfl⟩:=qAL.mp hx
  refine .tup fun z hz=>?_
  rcases qAk.mp hz with rfl|hz
  .exact .int _
  .rw[qAw.mp hz];exact .int _
 .exact qAr.mpr fun x hx=>by obtain⟨c,_,rfl⟩:=qAL.mp hx;exact P0 _
 .exact qAr.mpr fun x hx=>by obtain⟨c,_,rfl⟩:=qAL.mp hx;exact P0 _
 .exact qAr.mpr fun x hx=>by obtain⟨c,_,rfl⟩:=qAL.mp hx;rfl
 rintro rows ⟨r,a,hR,rfl⟩
 refine#[Ra (by rw[qAa,qAt];omega) fun y hy=>?_,by rw[qAa,qAt];omega,fun y hy x hx=>?_,fun y hy=>qAr.mpr fun x hx=>?_,?_,#[t,U,NN,hs,cs,ws,r,a,by rw[qBt];rfl,i.e,i.w,i.ok,i.lw,i.c12,i.h12,hR,rfl]]
 .obtain⟨k,hk,rfl⟩:=qAL.mp hy
  have:=wk k (qAN.mp hk)
  show 0<((List.range _).map _).length/\((List.range _).map _).length<=1000
  rw[qAa,qAt]
  omega
 .obtain⟨k,hk,rfl⟩:=qAL.mp hy
  obtain⟨j,_,rfl⟩:=qAL.mp hx
  exact Ud _
 .obtain⟨k,hk,rfl⟩:=qAL.mp hy
  obtain⟨j,_,rfl⟩:=qAL.mp hx
  exact P0 _
 .rintro _ ⟨r',a',hR',rfl⟩
  refine qA7 fun k hk=>?_
  have kl:=qAN.mp hk
  have u:=(Run.uniq hR' hR (by rw[i.e];exact qAd _) i.w cs.length (qAd _)).2 k _ kl (gw k kl)
  have w:=wk k kl
  refine qA7 fun j hj=>?_
  have jl:=qAN.mp hj
  rw[u _ () ()]
end
abbrev Due (l:W.OpenLaw)(w:World)(K:W.Frag)(mg:Str->Option Value)(fa:Addr):Prop:=∃fd:FuncData,(∀(s:Shared)(v:Value),BindsTo s fd #[[v],[]] [("_law_script",v)])/\∀base:Heap,K.In base->base.Ns mainGlobals mg->∃mg',Az l.prog w K mg base CX0 13 fa fd ["_law_script"] (Ag K mg' JW)
theorem all_mk {l:W.OpenLaw}{w:World}{K:W.Frag}{h:Heap}{mg:Str->Option Value}{fa:Addr}(X:K.In h) (G:h.Ns mainGlobals mg) (hfa:mg "law"=some (.ref fa)) (fx:Facts l K):Due l w K mg fa:=by
 obtain @⟨kV,dc,pm,cd,ct,oc,od,an,sl,fL,K_NoCurve,K_NoTime,K_NoWay,gt_NOUGHT_0,gt_NOUGHT_1,ga_NOUGHT_2,gd_NOUGHT_3,gn_NOUGHT_3,gs_NOUGHT_3,r0,r1,r2,r3,r4,r5,r6,r7,r8,r9,r10,r11,r12,r13,r14,r15,r16,r17,r18,r19,r20,r21,r22,r23,r24,r25,r26,r27,r28,r29,r30,r31,r32,r33,r34,r35,r36,r37,r38,r39,r40,r41,r42,r43,r44,r45,r46,r47,r48,r49,aL,lL,cL,kL,z0,z1,z2,z3,z4,z5,z6,z7,z8,z9,z10,n_NoCurve,n_NoTime,n_NoWay,n_NOUGHT,n_gl_NOUGHT_6,x_NoCurve,x_NoTime,x_NoWay,ht_piece_at,hp_piece_at⟩:=fx
 have e:=hfa.symm.trans (qBw X G aL)
 cases e
 have Ah:=qAV X G z0
 have Fo:=qAV X G z1
 have El:=qAV X G z2
 have IB:=qAV X G z3
 have Ar:=qAV X G z4
 have Am:=qAV X G z5
 have Bh:=qAV X G z6
 have Di:=qAV X G z7
 have Cz:=qAV X G z8
 have Oz:=qAV X G z9
 have EC:=qAV X G z10
 have gc_NOUGHT:GC K mg "NOUGHT" (.tup [(.int 0),(.int 1)]):=KD.of (qBw X G n_NOUGHT) (KD.tup n_gl_NOUGHT_6 (Nat.le_of_ble_eq_true rfl) (.cons KD.int (.cons KD.int .nil)))
 have ec_NoCurve:ExC K "NoCurve" K_NoCurve:=#[n_NoCurve,x_NoCurve]
 have m_NoCurve:=qBw X G n_NoCurve
 have ec_NoTime:ExC K "NoTime" K_NoTime:=#[n_NoTime,x_NoTime]
 have m_NoTime:=qBw X G n_NoTime
 have ec_NoWay:ExC K "NoWay" K_NoWay:=#[n_NoWay,x_NoWay]
 have m_NoWay:=qBw X G n_NoWay
 obtain⟨⟨cA_piece_at,cT_piece_at⟩,n_ht_piece_at⟩:=qCt.mp ht_piece_at
 refine#[W.fnOf "law" "law" (Er FJ) (B4 FJ) (Ac FJ) .none kV dc pm an cd ct,fun s v=>.of_eq rfl,fun base _ _=>#[mg,?_]]
 have M:=@mkC l.prog w K mg base h X G
 have C2:=M r0 (fun F _=>Az.anyCX (Ju Ah Fo El F))
 have BJ:=M r0 (fun F _=>Az.anyCX (GU Ah Fo El F))
 have EU:=M r1 (fun F _=>Az.anyCX (Li IB F))
 have BO:=M r2 (fun F _=>Az.anyCX (Oy C2 EU F))
 have Gj:=M r3 (fun F _=>Az.anyCX (QV BO F))
 have A5:=M r4 (fun F _=>Az.anyCX (NT BO F))
 have Hh:=M r5 (fun F _=>Az.anyCX (Oc BO F))
 have F7:=M r6 (fun F _=>Az.anyCX (Pp BO F))
 have Ax:=M r7 (fun F _=>Az.anyCX (Ob F))
 have DE:=M r8 (fun F _=>Az.anyCX (K3 Ax F))
 have Ci:=M r9 (fun F _=>GJ Ax Ar gc_NOUGHT ec_NoCurve m_NoCurve F)
 have CJ:=M r10 (fun F _=>Hr Ax Ar ec_NoCurve m_NoCurve Am F)
 have AM:=M r11 (fun F _=>Az.anyCX (FI A5 F7 F))
 have AL:=M r12 (fun F _=>Az.anyCX (FO Ar Am AM F))
 have Ew:=M r13 (fun F _=>Nx Ax Ar gc_NOUGHT ec_NoCurve m_NoCurve Ci Am CJ AL Bh F)
 have CF:=M r14 (fun F _=>Hg Ax gc_NOUGHT ec_NoTime m_NoTime F)
 have Cf:=mkL (P:=l.prog) (w:=w) (base:=base) X G r15 (fun F _=>GI Ar F)
 have D4:=M r16 (fun F a=>JG Ax CF Cf F n_ht_piece_at a hp_piece_at)
 have Bx:=M r17 (fun F _=>Az.anyCX (Fp Ar AM F))
 have C7:=M r18 (fun F _=>JD Gj A5 Hh D4 Bx F)
 have EO:=M r19 (fun F _=>Az.anyCX (K6 Gj A5 F7 F))
 have Bn:=M r20 (fun F _=>Az.anyCX (HX A5 F))
 have BS:=M r21 (fun F _=>Az.anyCX (F8 Ax Ar F))
 have A9:=M r22 (fun F _=>Az.anyCX (GS C7 BS F))
 have K1:=M r23 (fun F _=>Az.anyCX (Pn A5 Ew Bn A9 F))
 have Cg:=M r24 (fun F _=>Az.anyCX (GR Ax Ar gc_NOUGHT F))
 have J8:=M r25 (fun F _=>Az.anyCX (Qo A5 Ax DE gc_NOUGHT AL Ew EO Bn A9 Cg Di F))
 have Dn:=M r26 (fun F _=>Az.anyCX (Mf J8 F))
 have FX:=M r27 (fun F _=>Az.anyCX (MZ K1 Dn F))
 have CO:=M r28 (fun F _=>H8 BJ Ar ec_NoWay m_NoWay F)
 have MR:=M r29 (fun F _=>RX Ar Am Dn FX CO Cz Oz F)
 have Al:=M r30 (fun F _=>Az.anyCX (Gq Ar F))
 have AD:=M r31 (fun F _=>Az.anyCX (Jt IB F))
 have BN:=M r32 (fun F _=>Az.anyCX (Jk F))
 have Aw:=M r33 (fun F _=>Az.anyCX (Ij F))
 have Aq:=M r34 (fun F _=>Az.anyCX (Hl F))
 have A8:=M r35 (fun F _=>Az.anyCX (Hi Ar Aw F))
 have Bv:=M r36 (fun F _=>Az.anyCX (Lp Ar BN Aw Aq A8 F))
 have BD:=M r37 (fun F _=>Az.anyCX (Hq Ah Fo El Ar Bh AD F))
 have CS:=M r38 (fun F _=>Az.anyCX (H0 Ah Ar Am Bh Aq A8 BD F))
 have Cc:=M r39 (fun F _=>Az.anyCX (GH F))
 have CI:=M r40 (fun F _=>Az.anyCX (HN Ar Am Bh AD Cc EC F))
 have D0:=M r41 (fun F _=>Az.anyCX (Jz Am Al F))
 have Bl:=M r42 (fun F _=>Az.anyCX (HL Ar Aq F))
 have Bk:=M r43 (fun F _=>Az.anyCX (Hc F))
 have Cj:=M r44 (fun F _=>Az.anyCX (GQ Ar Am BN Aw Aq Bv Bl Bk F))
 have CQ:=M r45 (fun F _=>Az.anyCX (HC Bh AD Aw Bv Bl F))
 have Ds:=M r46 (fun F _=>Az.anyCX (IM Am Al F))
 have BW:=M r47 (fun F _=>Az.anyCX (HP Al CI D0 F))
 have CD:=M r48 (fun F _=>Az.anyCX (Hm Ah Ar Am Cz CS Cj CQ F))
 have Cr:=M r49 (fun F _=>Az.anyCX (IF Al F))
 exact SM Fo Am Cz MR Al Ds BW CD Cr (LM (st:=FJ) lL cL kL)
end CL
theorem PySem.Challenge.cw_curvehouse_k41_a_run_walked_holds : PySem.Challenge.rw_curvehouse_k41_a_run_walked.Holds := by
 exact CL.front fun e1 e2 e3 e4 e5 fx=>L3.walk3 (l:=PySem.Challenge.rw_curvehouse_k41_a_run_walked) (k:=13) (x:="_law_script") rfl e1 #[rfl,∅,∅] e2 e3 e4 fun w mg fa h X G hg=>CL.all_mk X G (e5 ▸ hg) (fx w)
