import PyProof.Rows.All
import PySem.Challenge.RW_curvehouse_k52_terms
import Wide.All
import OpenK.AllK
import Wide.FinOn
import Lean
import PyProof.EqAt
import PyProof.EqKinds
import PyProof.TupleCall
set_option Elab.async false
set_option linter.all false
set_option maxRecDepth 100000
local macro_rules|`(())=>`(by omega)
local macro_rules|`(∅)=>`(by decide)
local macro_rules|`(⋯)=>`(by grind)
section
open PySem
abbrev qAa:=@List.length_append
abbrev qAb:=@Heap.get?_push_of_some
abbrev qAc:=@List.getElem?_eq_getElem
abbrev qAd:=@List.length_cons
abbrev qAe:=@Bool.false_ne_true
abbrev qAf:=@List.length_map
abbrev qAg:=@Nat.le_refl
abbrev qAh:=@Heap.lt_size
abbrev qAi:=@List.mem_cons_of_mem
abbrev qAj:=@List.getElem?_eq_some_iff
abbrev qAk:=@List.size_toArray
abbrev qAl:=@List.getElem?_map
abbrev qAm:=@Heap.get?_push_size
abbrev qAn:=@Option.some.inj
abbrev qAo:=@Nat.ne_of_lt
abbrev qAp:=@List.all_eq_true
abbrev qAq:=@List.mem_cons
abbrev qAr:=@Nat.lt_of_lt_of_le
abbrev qAs:=@List.getElem?_eq_none_iff
abbrev qAt:=@List.mem_cons_self
abbrev qAu:=@List.length_take
abbrev qAv:=@List.mem_append_right
abbrev qAw:=@Nat.zero_le
abbrev qAx:=@List.length_nil
abbrev qAy:=@List.mem_of_getElem?
abbrev qAz:=@List.length_drop
abbrev qAA:=@List.eq_nil_of_length_eq_zero
abbrev qAB:=@List.mem_append
abbrev qAC:=@List.mem_of_mem_take
abbrev qAD:=@List.mem_of_mem_drop
abbrev qAE:=@Nat.le_trans
abbrev qAF:=@Bool.and_eq_true
abbrev qAG:=@Int.fmod_nonneg_of_pos
abbrev qAH:=@PySem.W.mg_of
abbrev qAI:=@List.getElem?_append_left
abbrev qAJ:=@List.drop_eq_nil_of_le
abbrev qAK:=@PySem.W.kia_one
abbrev qAL:=@List.getElem?_append_right
abbrev qAM:=@List.mem_singleton
abbrev qAN:=@List.getElem?_zip_eq_some
abbrev qAO:=@Int.toNat_natCast
abbrev qAP:=@List.length_dropLast
abbrev qAQ:=@PySem.W.mg_none_of
abbrev qAR:=@Rat.intCast_mul
abbrev qAS:=@List.drop_eq_getElem_cons
abbrev qAT:=@List.dropLast_subset
abbrev qAU:=@Int.fmod_lt_of_pos
abbrev qAV:=@List.mem_range
abbrev qAW:=@Bool.eq_iff_iff
abbrev qAX:=@PyProof.Rows.callWith_type1
abbrev qAY:=@Heap.get?_update_self
abbrev qAZ:=@Int.fdiv_eq_ediv_of_nonneg
abbrev qA0:=@List.append_nil
abbrev qA1:=@List.ext_getElem?
abbrev qA2:=@List.count_append
abbrev qA3:=@Nat.lt_irrefl
abbrev qA4:=@Nat.le_succ
abbrev qA5:=@List.take_of_length_le
abbrev qA6:=@PySem.F.plainAttrs_str
abbrev qA7:=@PyProof.Rows.boot_sorted
abbrev qA8:=@List.map_cons
abbrev qA9:=@List.map_append
abbrev qBa:=@List.mem_map
abbrev qBb:=@List.getD_eq_getElem?_getD
abbrev qBc:=@List.lookup_cons
abbrev qBd:=@List.mem_filterMap
abbrev qBe:=@Bool.false_eq_true
abbrev qBf:=@Nat.lt_trans
abbrev qBg:=@Int.eq_ofNat_of_zero_le
abbrev qBh:=@List.getElem?_set_self
abbrev qBi:=@Nat.le_of_lt
abbrev qBj:=@PySem.W.callWith_K
abbrev qBk:=@Rat.divInt_eq_div
abbrev qBl:=@List.length_range
abbrev qBm:=@List.take_add_one
abbrev qBn:=@PySem.W.looks_findIn
abbrev qBo:=@List.getElem?_of_mem
abbrev qBp:=@List.dropLast_concat
abbrev qBq:=@Nat.ne_of_gt
abbrev qBr:=@List.map_map
abbrev qBs:=@List.replicate_succ
abbrev qBt:=@List.eraseIdxIfInBounds_toArray
abbrev qBu:=@List.nodup_cons
abbrev qBv:=@List.forIn_cons
abbrev qBw:=@Option.map_eq_some_iff
abbrev qBx:=@Heap.get?_update_other
abbrev qBy:=@List.take_append_of_le_length
abbrev qBz:=@PySem.W.kitx_list
abbrev qBA:=@List.flatten_cons
abbrev qBB:=@PySem.W.methodCall_KW
abbrev qBC:=@PyProof.Rows.boot_isinstance
abbrev qBD:=@List.getElem?_eq_none
abbrev qBE:=@List.getElem?_set_ne
abbrev qBF:=@Nat.le_of_not_lt
abbrev qBG:=@List.cons_append
abbrev qBH:=@List.not_mem_nil
abbrev qBI:=@Int.fmod_eq_emod_of_nonneg
abbrev qBJ:=@List.filterMap_cons
abbrev qBK:=@PySem.W.plainGet_of
abbrev qBL:=@PySem.W.looks_mroIn
abbrev qBM:=@List.map_congr_left
abbrev qBN:=@List.mem_filter
abbrev qBO:=@List.of_mem_zip
abbrev qBP:=@List.nil_append
abbrev qBQ:=@List.count_cons
abbrev qBR:=@Option.isSome_iff_exists
abbrev qBS:=@List.zip_cons_cons
abbrev qBT:=@PyProof.Rows.F.entry_set_update_loop
abbrev qBU:=@Heap.size_push
abbrev qBV:=@Bool.and_false
abbrev qBW:=@List.drop_zero
abbrev qBX:=@List.getElem?_replicate
abbrev qBY:=@List.getElem?_cons_succ
abbrev qBZ:=@List.append_assoc
abbrev qB0:=@PySem.W.cellsFrom_some
abbrev qB1:=@PyProof.Rows.boot_list
abbrev qB2:=@Nat.lt_succ_self
abbrev qB3:=@List.filterMap_append
abbrev qB4:=@List.getElem?_toArray
abbrev qB5:=@Nat.le_of_ble_eq_true
abbrev qB6:=@List.take_append_drop
abbrev qB7:=@PyProof.Rows.slot_tuple_getitem
abbrev qB8:=@List.mem_append_left
abbrev qB9:=@PyProof.Rows.callWith_builtin1
abbrev qCa:=@PySem.W.callWith_K0
abbrev qCb:=@Int.mul_fdiv_cancel
abbrev qCc:=@List.getElem?_range
abbrev qCd:=@Heap.get?_update_ne
abbrev qCe:=@List.take_succ_cons
abbrev qCf:=@PySem.W.kla_fn
abbrev qCg:=@PyProof.Rows.sorted_ints_rev
abbrev qCh:=@Int.mul_one
abbrev qCi:=@PySem.W.KFB.if_not
abbrev qCj:=@Nat.lt_of_le_of_lt
abbrev qCk:=@List.getElem?_drop
abbrev qCl:=@PyProof.Rows.boot_enumerate
abbrev qCm:=@List.all_cons
abbrev qCn:=@Int.sign_eq_neg_one_of_neg
abbrev qCo:=@PyProof.Rows.sortedAll_old
abbrev qCp:=@List.getElem?_set
abbrev qCq:=@Nat.lt_succ_of_lt
abbrev qCr:=@PyProof.Rows.sortedAll_at
abbrev qCs:=@PySem.F.args_tuple_add_2
abbrev qCt:=@Option.getD_none
abbrev qCu:=@List.take_length
abbrev qCv:=@Nat.succ_ne_self
abbrev qCw:=@PyProof.Rows.sorted_ints
abbrev qCx:=@PyProof.Rows.callWith_kw
abbrev qCy:=@List.getElem_mem
abbrev qCz:=@List.take_append
abbrev qCA:=@PySem.F.entry_tuple_add
abbrev qCB:=@List.eraseIdx_cons_succ
abbrev qCC:=@PyProof.Rows.intBits_le
abbrev qCD:=@PySem.F.slot_tuple_add
abbrev qCE:=@Int.sign_eq_one_of_pos
abbrev qCF:=@List.not_lt
abbrev qCG:=@Bool.beq_eq_decide_eq
abbrev qCH:=@List.length_replicate
abbrev qCI:=@Int.natAbs_mul
abbrev qCJ:=@PySem.F.slot_str_join
abbrev qCK:=@PySem.F.type_str_join
abbrev qCL:=@Option.map_map
abbrev qCM:=@PyProof.Rows.boot_str
abbrev qCN:=@Nat.not_lt
abbrev qCO:=@Bool.and_true
abbrev qCP:=@Nat.add_comm
abbrev qCQ:=@Int.gcd_comm
abbrev qCR:=@Nat.lt_or_ge
abbrev qCS:=@List.all_map
end
namespace L2
open PySem
def Ci (s:Stmt):Arguments:=match s with
 |.FunctionDef _ a _ _ _ _ _ _ _ _=>a
 |_=>{ posonlyargs:=[],args:=[],vararg:=none,kwonlyargs:=[],kw_defaults:=[],kwarg:=none,defaults:=[] }
def A4 (s:Stmt):List Stmt:=match s with
 |.FunctionDef _ _ b _ _ _ _ _ _ _=>b
 |_=>[]
def Ae (s:Stmt):Scope:=match s with
 |.FunctionDef _ _ _ _ _ _ sc _ _ _=>sc
 |_=>{ kind:=.function,names:=[],isGenerator:=false,isCoroutine:=false }
end L2
namespace L3
open PySem L2
abbrev rA (K:PySem.W.Frag)(n:Str)(f:Addr):Prop:=PySem.W.nsIn K mainGlobals n=some (some (.ref f))
abbrev rL (K:PySem.W.Frag)(f:Addr)(n:Str)(st:Stmt)(oc:Value)(od:Option Addr)(kV dc pm:Value)(an:Option Addr)(cd ct:Value)(sl:Array (Option Value)):Prop:=K.lookup f=some ⟨oc,od,.func (PySem.W.fnOf n n (Ci st) (A4 st) (Ae st) .none kV dc pm an cd ct),sl⟩
abbrev rC (K:PySem.W.Frag)(cd:Value)(n:Str):Prop:=PySem.W.codeIn K cd n=true
abbrev rK (K:PySem.W.Frag)(f:Addr):Prop:=PySem.W.keepIn K (.ref f)=true
inductive Rw (K:PySem.W.Frag)(n:Str)(st:Stmt):Prop
 |mk {f:Addr}{oc:Value}{od:Option Addr}{kV dc pm:Value}{an:Option Addr}{cd ct:Value}{sl:Array (Option Value)} (a:rA K n f) (l:rL K f n st oc od kV dc pm an cd ct sl) (c:rC K cd n) (k:rK K f)
def inC (st:Stmt)(j:Nat):Stmt:=match st with
 |.ClassDef _ _ _ b _ _ _ _ _ _ _=>b.getD j (.Pass ⟨0,0,0,0⟩)
 |x=>x
inductive CF (K:PySem.W.Frag)(c:Str)(C:Addr):Prop
 |mk (n0:rA K c C)(n1:PySem.W.plainGet K C Str.empty=true)(n2:PySem.W.hasDictIn K C=true)(n3:PySem.W.plainOver K C=true)(n4:PySem.W.findIn K (.ref C) "__setattr__"=some (some (.builtin "object.__setattr__")))(n5:PySem.W.makesIn K C=true)(n6:PySem.W.keepIn K (.ref C)=true)
  (n7:PySem.W.findIn K (.ref C) "__class__"=some (some (.builtin "object.__class__")))(n8:PySem.W.mroIn K C (.type "object")=some true)
inductive RwM (K:PySem.W.Frag)(C:Addr)(m q:Str)(st:Stmt)(f:Addr):Prop
 |mk {oc:Value}{od:Option Addr}{kV dc pm:Value}{an:Option Addr}{cd ct:Value}{sl:Array (Option Value)} (a:PySem.W.findIn K (.ref C) m=some (some (.ref f)))
  (l:K.lookup f=some ⟨oc,od,.func (PySem.W.fnOf m q (Ci st) (A4 st) (Ae st) .none kV dc pm an cd ct),sl⟩) (c:PySem.W.codeIn K cd q=true) (k:rK K f) (n:PySem.W.isFn K (.ref f)=true)
end L3
namespace CL
open PySem L2 L3
def top (i:Nat):Stmt:=PySem.Challenge.pw_curvehouse_k52_terms.main.body.getD i (.Pass ⟨0,0,0,0⟩)
abbrev CQ:Stmt:=top 13
abbrev C8:Stmt:=top 21
abbrev AL:Stmt:=top 22
abbrev B0:Stmt:=top 23
abbrev Dn:Stmt:=top 24
abbrev B3:Stmt:=top 26
abbrev B4:Stmt:=top 27
abbrev BZ:Stmt:=top 28
abbrev Cr:Stmt:=top 29
abbrev BA:Stmt:=top 30
abbrev BX:Stmt:=top 31
abbrev B5:Stmt:=top 32
abbrev Ct:Stmt:=top 33
abbrev HR:Stmt:=top 34
abbrev Cc:Stmt:=inC (top 19) 0
abbrev BP:Stmt:=inC (top 19) 1
abbrev CN:Stmt:=inC (top 19) 2
abbrev BF:Stmt:=inC (top 20) 0
abbrev AV:Stmt:=inC (top 20) 1
inductive Facts (l:PySem.W.OpenLaw)(K:PySem.W.Frag):Prop
 |mk {kV dc pm cd ct oc:Value}{od an:Option Addr}{sl:Array (Option Value)}{fL K_CurveError K_NoRatio K_NoCurve K_NoTime K_NoHouse K_NoWay K_NoText K_NoName K_NoEnd K_NoRow K_Term K_WordTerm:Addr}{gt_LETTERS_0:Tok}{gt_LONGEST_NAME_1:Tok}{gt_WORDS_2:Tok}{gt_WORDS_3:Tok}{gt_WORDS_4:Tok}{gt_WORDS_5:Tok}{gt_WORDS_6:Tok}{gt_WORDS_7:Tok}{ga_WORDS_8:Addr}{gd_WORDS_9:Option Addr}{gn_WORDS_9:Nat}{gs_WORDS_9:Array (Option Value)}{gt_DEEPEST_12:Tok}{f_Ti:Addr}{f_Ts:Addr}{f_Tn:Addr}{f_Wi:Addr}{f_Wn:Addr}
  (r0:Rw K "check_text" CQ)
  (r1:Rw K "is_name" Dn)
  (r2:Rw K "middle_comma" B0)
  (r3:Rw K "term_of" AL)
  (r4:Rw K "read_term" C8)
  (r5:Rw K "_law_cell_at" B3)
  (r6:Rw K "_law_name_by" B4)
  (r7:Rw K "_law_word_by" BZ)
  (r8:Rw K "_law_drawn" Cr)
  (r9:Rw K "_law_places" BA)
  (r10:Rw K "_law_spoiled" BX)
  (r11:Rw K "_law_refused" B5)
  (r12:Rw K "_law_holds" Ct)
  (aL:rA K "law" fL) (lL:rL K fL "law" HR oc od kV dc pm an cd ct sl) (cL:rC K cd "law") (kL:rK K fL)
  (z0:PySem.W.nsIn K mainGlobals "set"=some none)
  (z1:PySem.W.nsIn K mainGlobals "isinstance"=some none)
  (z2:PySem.W.nsIn K mainGlobals "str"=some none)
  (z3:PySem.W.nsIn K mainGlobals "all"=some none)
  (z4:PySem.W.nsIn K mainGlobals "len"=some none)
  (z5:PySem.W.nsIn K mainGlobals "enumerate"=some none)
  (z6:PySem.W.nsIn K mainGlobals "range"=some none)
  (z7:PySem.W.nsIn K mainGlobals "sorted"=some none)
  (z8:PySem.W.nsIn K mainGlobals "max"=some none)
  (z9:PySem.W.nsIn K mainGlobals "list"=some none)
  (z10:PySem.W.nsIn K mainGlobals "int"=some none)
  (z11:PySem.W.nsIn K mainGlobals "ValueError"=some none)
  (n_CurveError:rA K "CurveError" K_CurveError)
  (n_NoRatio:rA K "NoRatio" K_NoRatio)
  (n_NoCurve:rA K "NoCurve" K_NoCurve)
  (n_NoTime:rA K "NoTime" K_NoTime)
  (n_NoHouse:rA K "NoHouse" K_NoHouse)
  (n_NoWay:rA K "NoWay" K_NoWay)
  (n_NoText:rA K "NoText" K_NoText)
  (n_NoName:rA K "NoName" K_NoName)
  (n_NoEnd:rA K "NoEnd" K_NoEnd)
  (n_NoRow:rA K "NoRow" K_NoRow)
  (x_NoText:PySem.W.excIn K K_NoText [.type "ValueError",.type "Exception",.type "BaseException",.type "object"] "ValueError.__new__"=true)
  (n_LETTERS:PySem.W.nsIn K mainGlobals "LETTERS"=some (some (.str "abcdefghijklmnopqrstuvwxyz" gt_LETTERS_0)))
  (n_LONGEST_NAME:PySem.W.nsIn K mainGlobals "LONGEST_NAME"=some (some (.int 8 gt_LONGEST_NAME_1)))
  (n_WORDS:PySem.W.nsIn K mainGlobals "WORDS"=some (some (.ref ga_WORDS_8)))
  (n_gl_WORDS_12:K.lookup ga_WORDS_8=some ⟨.type "tuple",gd_WORDS_9,.seq #[(.str "least" gt_WORDS_2),(.str "most" gt_WORDS_3),(.str "sum" gt_WORDS_4),(.str "join" gt_WORDS_5),(.str "undo" gt_WORDS_6),(.str "left" gt_WORDS_7)] gn_WORDS_9,gs_WORDS_9⟩)
  (n_DEEPEST:PySem.W.nsIn K mainGlobals "DEEPEST"=some (some (.int 10 gt_DEEPEST_12)))
  (h0_CurveError:PySem.W.instIn K (.ref K_CurveError) (.type "tuple")=some false)
  (h1_CurveError:(PySem.W.clsIn K K_CurveError).isSome=true)
  (h2_CurveError:PySem.W.mroIn K K_CurveError (.type "BaseException")=some true)
  (mr_NoText_CurveError:PySem.W.mroIn K K_NoText (.ref K_CurveError)=some true)
  (kT_NoText_ValueError:PySem.W.kitOne K (.ref K_NoText) (.type "ValueError")=some true)
  (i0_NoText:PySem.W.findIn K (.ref K_NoText) "__getattribute__"=some (some (.builtin "BaseException.__getattribute__")))
  (i1_NoText:PySem.W.findIn K (.ref K_NoText) "__getattr__"=some none)
  (i2_NoText:(PySem.W.clsIn K K_NoText).isSome=true)
  (i3_NoText:PySem.W.findIn K (.ref K_NoText) "__class__"=some (some (.builtin "object.__class__")))
  (i4_NoText:PySem.W.specialIn K (.builtin "object.__class__") "__get__"=some (some (.builtin "getset_descriptor.__get__")))
  (i5_NoText:PySem.W.takesIn K (.builtin "object.__class__")=some true)
  (i6_NoText:PySem.W.mroIn K K_NoText (.type "object")=some true)
  (i7_NoText:PySem.W.mroIn K K_NoText (.type "BaseException")=some true)
  (kt_NoText_NoText:PySem.W.kitOne K (.ref K_NoText) (.ref K_NoText)=some true)
  (kt_NoText_NoWay:PySem.W.kitOne K (.ref K_NoText) (.ref K_NoWay)=some false)
  (kt_NoText_NoTime:PySem.W.kitOne K (.ref K_NoText) (.ref K_NoTime)=some false)
  (kt_NoText_NoRow:PySem.W.kitOne K (.ref K_NoText) (.ref K_NoRow)=some false)
  (kt_NoText_NoRatio:PySem.W.kitOne K (.ref K_NoText) (.ref K_NoRatio)=some false)
  (kt_NoText_NoName:PySem.W.kitOne K (.ref K_NoText) (.ref K_NoName)=some false)
  (kt_NoText_NoHouse:PySem.W.kitOne K (.ref K_NoText) (.ref K_NoHouse)=some false)
  (kt_NoText_NoEnd:PySem.W.kitOne K (.ref K_NoText) (.ref K_NoEnd)=some false)
  (kt_NoText_NoCurve:PySem.W.kitOne K (.ref K_NoText) (.ref K_NoCurve)=some false)
  (cf_Term:CF K "Term" K_Term)
  (cf_WordTerm:CF K "WordTerm" K_WordTerm)
  (rm_Term_init:RwM K K_Term "__init__" "Term.__init__" Cc f_Ti)
  (rm_Term_shown:RwM K K_Term "shown" "Term.shown" BP f_Ts)
  (rm_Term_names:RwM K K_Term "names" "Term.names" CN f_Tn)
  (rm_WordTerm_init:RwM K K_WordTerm "__init__" "WordTerm.__init__" BF f_Wi)
  (rm_WordTerm_names:RwM K K_WordTerm "names" "WordTerm.names" AV f_Wn)
  (rm_WordTerm_shown:RwM K K_WordTerm "shown" "Term.shown" BP f_Ts)
  (na_Tt:PySem.W.findIn K (.ref K_Term) "text"=some none)
  (na_Wtext:PySem.W.findIn K (.ref K_WordTerm) "text"=some none)
  (na_Wword:PySem.W.findIn K (.ref K_WordTerm) "word"=some none)
  (na_Wone:PySem.W.findIn K (.ref K_WordTerm) "one"=some none)
  (na_Wother:PySem.W.findIn K (.ref K_WordTerm) "other"=some none)
  (cg_T:PySem.W.specialIn K (.ref K_Term) "__getattribute__"=some (some (.builtin "type.__getattribute__")))
  (cr_T:PySem.W.readsIn K K_Term (.type "type")=true)
  (ci_T:PySem.W.findCls K (.ref K_Term) (.type "type") "__init__"=some (.val (.ref f_Ti)))
  (ih_n:PySem.W.specialIn K (.builtin "object.__class__") "__get__"=some (some (.builtin "getset_descriptor.__get__")))
  (ih_t:PySem.W.takesIn K (.builtin "object.__class__")=some true)
  (kt_T:PySem.W.kitOne K (.ref K_Term) (.ref K_Term)=some true)
  (kt_W:PySem.W.kitOne K (.ref K_WordTerm) (.ref K_Term)=some true)
end CL
section
set_option maxRecDepth 100000
set_option maxHeartbeats 0
open PySem PySem.W PyProof.Rows
noncomputable def CL.qv:Program:={ PySem.Challenge.pw_curvehouse_k52_terms with main:={ PySem.Challenge.pw_curvehouse_k52_terms.main with body:=[CL.top 0,CL.top 2,CL.top 3,CL.top 4,CL.top 5,CL.top 6,CL.top 7,CL.top 8,CL.top 9,CL.top 10,CL.top 11,CL.top 13,CL.top 15,CL.top 16,CL.top 17,CL.top 18,CL.top 19,CL.top 20,CL.top 21,CL.top 22,CL.top 23,CL.top 24,CL.top 26,CL.top 27,CL.top 28,CL.top 29,CL.top 30,CL.top 31,CL.top 32,CL.top 33,CL.top 34] } }
def CL.grow:List Obj→Nat→BT→BT
 |[],_,T=>T
 |x::l,i,T=>CL.grow l (i+1) (T.ins i x)
noncomputable def CL.b0 (P:Params):BT:=CL.grow (boot_heap P).objs.toList 0 .nil
theorem CL.b0_abs (P:Params):absHeap (CL.b0 P) 11 (boot_heap P).life=boot_heap P:=by kernel_rfl
theorem CL.b0_sz (P:Params):(boot_heap P).objs.size=11:=by kernel_rfl
theorem CL.b0_ns (P:Params):(boot_heap P).isNs mainGlobals=true:=by kernel_rfl
noncomputable def CL.tT (tb:String→Option Builtin)(p:Program)(w:World)(k:Nat)(an:Option Value):Nat→SharedT→Thread→Option SharedT
 |0,_,_=>none
 |m+1,a,c=>match through c,stepOk k an c with
  |true,_=>some a
  |false,false=>none
  |false,true=>match stepT (denote tb) p w a c with
   |none=>none
   |some (a',c')=>CL.tT tb p w k an m a' c'
theorem CL.tT_of {tb:String→Option Builtin}{p:Program}{w:World}{k:Nat}{an:Option Value}:∀{m:Nat}{a r:SharedT}{c:Thread},CL.tT tb p w k an m a c=some r→topRun tb p w k an m a.abs c=some r.abs
 |0,_,_,_,h=>by cases h
 |m+1,a,r,c,h=>by
  unfold CL.tT at h
  unfold topRun
  cases e1:through c with
  |true=>rw[e1] at h;cases h;rfl
  |false =>
   cases e2:stepOk k an c with
   |false=>rw[e1,e2] at h;cases h
   |true =>
    rw[e1,e2] at h
    dsimp only at h ⊢
    cases e3:stepT (denote tb) p w a c with
    |none=>rw[e3] at h;cases h
    |some x =>
     obtain⟨a',c'⟩:=x
     rw[e3] at h
     rw[stepT_spec e3]
     exact CL.tT_of h
noncomputable def CL.s0 (w:World)(os:OsState):SharedT:=⟨CL.b0 w.params,11,(boot_heap w.params).life,Array.mk [],boot_drawn,boot_toks,os⟩
theorem CL.s0_abs (w:World)(os:OsState):(CL.s0 w os).abs=⟨boot_heap w.params,Array.mk [],boot_drawn,boot_toks,os⟩:=by
 unfold CL.s0 SharedT.abs
 dsimp only
 rw[CL.b0_abs]
noncomputable def CL.an (w:World):Option Value:=(boot_heap w.params).nsMap mainGlobals "__annotations__"
noncomputable def CL.fin (p:Program)(w:World)(N:Nat)(os:OsState):Option SharedT:=CL.tT treeTable p w 11 (CL.an w) N (CL.s0 w os) (topStub p)
noncomputable def CL.ok (p:Program)(w:World)(s:Shared):Bool :=
 staticsOk (importedModules p.main.body) (boot_heap w.params) s.heap&&namesBound p s.heap &&
 gensDone s&&laidKept (boot_heap w.params) s.heap
theorem CL.lo {p q:Program}{Xt:Shared→Bool}{α:Type}{Yf:Shared→α}{Ya:World→α}{N:Nat}
 (o:∀w:World,(fencedOpening treeTable p w N).map (fun s=>(s.heap,s.gens,s.drawn,s.toks))=some (boot_heap w.params,Array.mk [],boot_drawn,boot_toks))
 (a:∀(w:World)(os:OsState),(CL.fin p w N os).map (fun s=>(CL.ok p w s.abs,openSeen q [] (importedModules p.main.body) Xt true s.abs))=some (true,openGood q []))
 (b:∀(w:World)(os:OsState),(CL.fin p w N os).map (fun s=>Yf s.abs)=some (Ya w)):LeftO p q [] Xt Yf Ya N true:=by
 intro w
 obtain⟨s,e,e'⟩:=qBw.mp (o w)
 obtain⟨h,gs,d,k,os⟩:=s
 simp only[Prod.mk.injEq] at e'
 obtain⟨e1,e2,e3,e4⟩:=e'
 subst e1 e2 e3 e4
 obtain⟨s,hs,hv⟩:=qBw.mp (a w os)
 have hb:=b w os
 rw[hs] at hb
 have hy:Yf s.abs=Ya w:=qAn hb
 have r:=CL.tT_of hs
 rw[CL.s0_abs] at r
 obtain⟨v1,v2⟩:=Prod.mk.inj hv
 have t:topFrom treeTable p w N ⟨boot_heap w.params,Array.mk [],boot_drawn,boot_toks,os⟩=some s.abs:=by
  unfold topFrom
  dsimp only
  rw[CL.b0_ns,CL.b0_sz]
  change Option.bind (topRun treeTable p w 11 (CL.an w) N _ _) _=_
  rw[r]
  show(match CL.ok p w s.abs with|true=>some s.abs|false=>none)=some s.abs
  rw[v1]
 unfold openEnds
 rw[e]
 show(topFrom treeTable p w N _).map _=_
 rw[t,←v2,←hy]
 rfl
theorem CL.op (w:World):(fencedOpening treeTable ((OpenLaw.row PySem.Challenge.rw_curvehouse_k52_terms).toRowW.prog) w 30100).map (fun s=>(s.heap,s.gens,s.drawn,s.toks))=some (boot_heap w.params,Array.mk [],boot_drawn,boot_toks):=boot_open (by kernel_rfl) (by decide +kernel) (fun s=>by kernel_rfl) w
theorem CL.tri {α β γ δ ε ζ η θ ι:Type}{o:Option α}{f:α→β}{g:α→γ}{h:α→δ}{k:α→ε}{l:α→ζ}{m:α→η}{n:α→θ}{p:α→ι}{b:β}{c:γ}{d:δ}{e:ε}{y:ζ}{u:η}{v:θ}{z:ι} (h1:o.map (fun s=>(f s,g s))=some (b,c)) (h2:o.map (fun s=>(h s,k s))=some (d,e)) (h3:o.map l=some y) (h5:o.map m=some u) (h6:o.map n=some v) (h4:o.map p=some z):o.map (fun s=>(f s,g s,h s,k s,l s,m s,n s,p s))=some (b,c,d,e,y,u,v,z):=by
 cases o with
 |none=>cases h1
 |some x =>
  obtain⟨e1,e2⟩:=Prod.mk.inj (qAn h1)
  obtain⟨e3,e4⟩:=Prod.mk.inj (qAn h2)
  have e5:l x=y:=qAn h3
  have e6:m x=u:=qAn h5
  have e7:n x=v:=qAn h6
  have e8:p x=z:=qAn h4
  show some (f x,g x,h x,k x,l x,m x,n x,p x)=_
  rw[e1,e2,e3,e4,e5,e6,e7,e8]
end
section
open PySem PySem.W PyProof.Rows
local macro_rules|`(tactic| o_head $H)=>`(tactic| (
 refine holds_open (q:=CL.qv) (loose:=[]) (N:=30100)
  (Xt:=(fun s=>xlAt CL.qv [] s&&recOk (RowW.records (OpenRow.toRowW (OpenLaw.row PySem.Challenge.rw_curvehouse_k52_terms))) s))
  (XP:=XL CL.qv []) (Yf:=Hook.obs $H) (Ya:=Hook.val $H)
  (YP:=Hook.says $H) ?hl (Hook.of $H) (Hook.keeps $H)
  (fun s e=>xl_of s (Bool.and_eq_true_iff.mp e).1) XL.keeps (by rfl) (by rfl) (by rfl)
  (fun s e=>recFacts_of (Bool.and_eq_true_iff.mp e).2) (by rfl) (by first|assumption|decide +kernel)
  (by decide +kernel) ⟨rfl,rfl,rfl,rfl,rfl,by decide +kernel⟩ ?hw ?hc
 case hl =>
  refine CL.lo CL.op (by assumption) ?_
  intro w os
  kernel_rfl))
set_option maxRecDepth 100000 in
set_option maxHeartbeats 0 in
theorem CL.front (hA:∀(w:World)(os:OsState),(CL.fin ((OpenLaw.row PySem.Challenge.rw_curvehouse_k52_terms).toRowW.prog) w 30100 os).map (fun s=>(CL.ok ((OpenLaw.row PySem.Challenge.rw_curvehouse_k52_terms).toRowW.prog) w s.abs,openSeen CL.qv [] (importedModules ((OpenLaw.row PySem.Challenge.rw_curvehouse_k52_terms).toRowW.prog).main.body) (fun s=>xlAt CL.qv [] s&&recOk (RowW.records (OpenRow.toRowW (OpenLaw.row PySem.Challenge.rw_curvehouse_k52_terms))) s) true s.abs))=some (true,openGood CL.qv []))(hF:∀{q:Program}{loose:List Str}{XP:(Str→Option Value)→Heap→Prop}{YP:World→Heap→Prop}{d:DefRec}{K:Params→PySem.W.Frag},d.params.defaults=[]→(∀y:Str,(recsOf PySem.Challenge.rw_curvehouse_k52_terms.prog).any (fun d=>d.name==y)=true→(recsOf q).any (fun d=>d.name==y)=true)→(∀(w:World)(h:Heap),YP w h→(K w.params).In h)→(∀w:World,PySem.W.noTabs (K w.params)=true)→d.name="law"→(∀w:World,CL.Facts PySem.Challenge.rw_curvehouse_k52_terms (K w.params))→PySem.W.WalkO q loose XP YP PySem.Challenge.rw_curvehouse_k52_terms.row.toRowW d [] (fun f vs=>PySem.call f vs)):PySem.Challenge.rw_curvehouse_k52_terms.Holds:=by
 w_on;o_law;k_head;(case hw=>w_witness2)
 k_fill
 refine hF rfl (fun _ h=>h) (fun w h Y=>PySem.W.kIn_of Y) (fun w=>?nt) rfl (fun w=>?F)
 case nt=>kernel_rfl
 case F =>
  refine' CL.Facts.mk (.mk ?a0 ?l0 ?c0 ?k0) (.mk ?a1 ?l1 ?c1 ?k1) (.mk ?a2 ?l2 ?c2 ?k2) (.mk ?a3 ?l3 ?c3 ?k3) (.mk ?a4 ?l4 ?c4 ?k4) (.mk ?a5 ?l5 ?c5 ?k5) (.mk ?a6 ?l6 ?c6 ?k6) (.mk ?a7 ?l7 ?c7 ?k7) (.mk ?a8 ?l8 ?c8 ?k8) (.mk ?a9 ?l9 ?c9 ?k9) (.mk ?a10 ?l10 ?c10 ?k10) (.mk ?a11 ?l11 ?c11 ?k11) (.mk ?a12 ?l12 ?c12 ?k12) ?aL ?lL ?cL ?kL ?z0 ?z1 ?z2 ?z3 ?z4 ?z5 ?z6 ?z7 ?z8 ?z9 ?z10 ?z11 ?n_CurveError ?n_NoRatio ?n_NoCurve ?n_NoTime ?n_NoHouse ?n_NoWay ?n_NoText ?n_NoName ?n_NoEnd ?n_NoRow ?x_NoText ?n_LETTERS ?n_LONGEST_NAME ?n_WORDS ?n_gl_WORDS_12 ?n_DEEPEST ?h0_CurveError ?h1_CurveError ?h2_CurveError ?mr_NoText_CurveError ?kT_NoText_ValueError ?i0_NoText ?i1_NoText ?i2_NoText ?i3_NoText ?i4_NoText ?i5_NoText ?i6_NoText ?i7_NoText ?kt_NoText_NoText ?kt_NoText_NoWay ?kt_NoText_NoTime ?kt_NoText_NoRow ?kt_NoText_NoRatio ?kt_NoText_NoName ?kt_NoText_NoHouse ?kt_NoText_NoEnd ?kt_NoText_NoCurve (.mk ?cf0_Term ?cf1_Term ?cf2_Term ?cf3_Term ?cf4_Term ?cf5_Term ?cf6_Term ?cf7_Term ?cf8_Term) (.mk ?cf0_WordTerm ?cf1_WordTerm ?cf2_WordTerm ?cf3_WordTerm ?cf4_WordTerm ?cf5_WordTerm ?cf6_WordTerm ?cf7_WordTerm ?cf8_WordTerm) (.mk ?aTerm_init ?lTerm_init ?cTerm_init ?kTerm_init ?nTerm_init) (.mk ?aTerm_shown ?lTerm_shown ?cTerm_shown ?kTerm_shown ?nTerm_shown) (.mk ?aTerm_names ?lTerm_names ?cTerm_names ?kTerm_names ?nTerm_names) (.mk ?aWordTerm_init ?lWordTerm_init ?cWordTerm_init ?kWordTerm_init ?nWordTerm_init) (.mk ?aWordTerm_names ?lWordTerm_names ?cWordTerm_names ?kWordTerm_names ?nWordTerm_names) (.mk ?aWordTerm_shown ?lWordTerm_shown ?cWordTerm_shown ?kWordTerm_shown ?nWordTerm_shown) ?na_Tt ?na_Wtext ?na_Wword ?na_Wone ?na_Wother ?cg_T ?cr_T ?ci_T ?ih_n ?ih_t ?kt_T ?kt_W
  case a0|l0|c0|k0|a1|l1|c1|k1|a2|l2|c2|k2|a3|l3|c3|k3|a4|l4|c4|k4|a5|l5|c5|k5|a6|l6|c6|k6|a7|l7|c7|k7|a8|l8|c8|k8|a9|l9|c9|k9|a10|l10|c10|k10|a11|l11|c11|k11|a12|l12|c12|k12|aL|lL|cL|kL|z0|z1|z2|z3|z4|z5|z6|z7|z8|z9|z10|z11|n_CurveError|n_NoRatio|n_NoCurve|n_NoTime|n_NoHouse|n_NoWay|n_NoText|n_NoName|n_NoEnd|n_NoRow|n_LETTERS|n_LONGEST_NAME|n_WORDS|n_gl_WORDS_12|n_DEEPEST|cf0_Term|cf0_WordTerm|aTerm_init|lTerm_init|cTerm_init|kTerm_init|aTerm_shown|lTerm_shown|cTerm_shown|kTerm_shown|aTerm_names|lTerm_names|cTerm_names|kTerm_names|aWordTerm_init|lWordTerm_init|cWordTerm_init|kWordTerm_init|aWordTerm_names|lWordTerm_names|cWordTerm_names|kWordTerm_names|aWordTerm_shown|lWordTerm_shown|cWordTerm_shown|kWordTerm_shown=>(show _=_;k_is)
  case x_NoText|h0_CurveError|h1_CurveError|h2_CurveError|mr_NoText_CurveError|kT_NoText_ValueError|i0_NoText|i1_NoText|i2_NoText|i3_NoText|i4_NoText|i5_NoText|i6_NoText|i7_NoText|kt_NoText_NoText|kt_NoText_NoWay|kt_NoText_NoTime|kt_NoText_NoRow|kt_NoText_NoRatio|kt_NoText_NoName|kt_NoText_NoHouse|kt_NoText_NoEnd|kt_NoText_NoCurve|cf1_Term|cf2_Term|cf3_Term|cf4_Term|cf5_Term|cf6_Term|cf7_Term|cf8_Term|cf1_WordTerm|cf2_WordTerm|cf3_WordTerm|cf4_WordTerm|cf5_WordTerm|cf6_WordTerm|cf7_WordTerm|cf8_WordTerm|nTerm_init|nTerm_shown|nTerm_names|nWordTerm_init|nWordTerm_names|nWordTerm_shown|na_Tt|na_Wtext|na_Wword|na_Wone|na_Wother|cg_T|cr_T|ci_T|ih_n|ih_t|kt_T|kt_W=>kernel_rfl
end
section
set_option maxRecDepth 100000
set_option maxHeartbeats 0
open PySem PySem.W PyProof.Rows
theorem CL.lA1 (w:World)(os:OsState):(CL.fin ((OpenLaw.row PySem.Challenge.rw_curvehouse_k52_terms).toRowW.prog) w 30100 os).map (fun s=>(CL.ok ((OpenLaw.row PySem.Challenge.rw_curvehouse_k52_terms).toRowW.prog) w s.abs,(openSeen CL.qv [] (importedModules ((OpenLaw.row PySem.Challenge.rw_curvehouse_k52_terms).toRowW.prog).main.body) (fun s=>xlAt CL.qv [] s&&recOk (RowW.records (OpenRow.toRowW (OpenLaw.row PySem.Challenge.rw_curvehouse_k52_terms))) s) true s.abs).1))=some (true,expectedOf CL.qv):=by kernel_rfl
theorem CL.lA2 (w:World)(os:OsState):(CL.fin ((OpenLaw.row PySem.Challenge.rw_curvehouse_k52_terms).toRowW.prog) w 30100 os).map (fun s=>((openSeen CL.qv [] (importedModules ((OpenLaw.row PySem.Challenge.rw_curvehouse_k52_terms).toRowW.prog).main.body) (fun s=>xlAt CL.qv [] s&&recOk (RowW.records (OpenRow.toRowW (OpenLaw.row PySem.Challenge.rw_curvehouse_k52_terms))) s) true s.abs).2.1,(openSeen CL.qv [] (importedModules ((OpenLaw.row PySem.Challenge.rw_curvehouse_k52_terms).toRowW.prog).main.body) (fun s=>xlAt CL.qv [] s&&recOk (RowW.records (OpenRow.toRowW (OpenLaw.row PySem.Challenge.rw_curvehouse_k52_terms))) s) true s.abs).2.2.1))=some (bltViewBooted,true):=by kernel_rfl
theorem CL.lB3 (w:World)(os:OsState):(CL.fin ((OpenLaw.row PySem.Challenge.rw_curvehouse_k52_terms).toRowW.prog) w 30100 os).map (fun s=>(openSeen CL.qv [] (importedModules ((OpenLaw.row PySem.Challenge.rw_curvehouse_k52_terms).toRowW.prog).main.body) (fun s=>xlAt CL.qv [] s&&recOk (RowW.records (OpenRow.toRowW (OpenLaw.row PySem.Challenge.rw_curvehouse_k52_terms))) s) true s.abs).2.2.2.1)=some (true):=by kernel_rfl
theorem CL.lB4 (w:World)(os:OsState):(CL.fin ((OpenLaw.row PySem.Challenge.rw_curvehouse_k52_terms).toRowW.prog) w 30100 os).map (fun s=>(openSeen CL.qv [] (importedModules ((OpenLaw.row PySem.Challenge.rw_curvehouse_k52_terms).toRowW.prog).main.body) (fun s=>xlAt CL.qv [] s&&recOk (RowW.records (OpenRow.toRowW (OpenLaw.row PySem.Challenge.rw_curvehouse_k52_terms))) s) true s.abs).2.2.2.2.1)=some (pinGoodD (drecsOf CL.qv)):=by kernel_rfl
theorem CL.lB5 (w:World)(os:OsState):(CL.fin ((OpenLaw.row PySem.Challenge.rw_curvehouse_k52_terms).toRowW.prog) w 30100 os).map (fun s=>(openSeen CL.qv [] (importedModules ((OpenLaw.row PySem.Challenge.rw_curvehouse_k52_terms).toRowW.prog).main.body) (fun s=>xlAt CL.qv [] s&&recOk (RowW.records (OpenRow.toRowW (OpenLaw.row PySem.Challenge.rw_curvehouse_k52_terms))) s) true s.abs).2.2.2.2.2.1)=some (plainGoodE CL.qv (looseW CL.qv [])):=by kernel_rfl
theorem CL.lA4 (w:World)(os:OsState):(CL.fin ((OpenLaw.row PySem.Challenge.rw_curvehouse_k52_terms).toRowW.prog) w 30100 os).map (fun s=>((openSeen CL.qv [] (importedModules ((OpenLaw.row PySem.Challenge.rw_curvehouse_k52_terms).toRowW.prog).main.body) (fun s=>xlAt CL.qv [] s&&recOk (RowW.records (OpenRow.toRowW (OpenLaw.row PySem.Challenge.rw_curvehouse_k52_terms))) s) true s.abs).2.2.2.2.2.2.1,(openSeen CL.qv [] (importedModules ((OpenLaw.row PySem.Challenge.rw_curvehouse_k52_terms).toRowW.prog).main.body) (fun s=>xlAt CL.qv [] s&&recOk (RowW.records (OpenRow.toRowW (OpenLaw.row PySem.Challenge.rw_curvehouse_k52_terms))) s) true s.abs).2.2.2.2.2.2.2.1,(openSeen CL.qv [] (importedModules ((OpenLaw.row PySem.Challenge.rw_curvehouse_k52_terms).toRowW.prog).main.body) (fun s=>xlAt CL.qv [] s&&recOk (RowW.records (OpenRow.toRowW (OpenLaw.row PySem.Challenge.rw_curvehouse_k52_terms))) s) true s.abs).2.2.2.2.2.2.2.2))=some (plainGoodD CL.qv [],wideGood CL.qv,clsGoodW CL.qv []):=by kernel_rfl
theorem CL.lA (w:World)(os:OsState):(CL.fin ((OpenLaw.row PySem.Challenge.rw_curvehouse_k52_terms).toRowW.prog) w 30100 os).map (fun s=>(CL.ok ((OpenLaw.row PySem.Challenge.rw_curvehouse_k52_terms).toRowW.prog) w s.abs,openSeen CL.qv [] (importedModules ((OpenLaw.row PySem.Challenge.rw_curvehouse_k52_terms).toRowW.prog).main.body) (fun s=>xlAt CL.qv [] s&&recOk (RowW.records (OpenRow.toRowW (OpenLaw.row PySem.Challenge.rw_curvehouse_k52_terms))) s) true s.abs))=some (true,openGood CL.qv []):=CL.tri (CL.lA1 w os) (CL.lA2 w os) (CL.lB3 w os) (CL.lB4 w os) (CL.lB5 w os) (CL.lA4 w os)
end
namespace L2
open PySem PySem.Spec PyProof.Rows
abbrev Key:=Sum Int Str
def Hs:Key→Value→Bool
 |.inl k,v=>Value.isInt k v
 |.inr x,v=>Value.isStrOf x v
def Y1 (w:World):Key→Int
 |.inl k=>hashInt k
 |.inr x=>hashStr w x
theorem AM:∀{k:Key}{v:Value},Hs k v=true→(∃i t,k=Sum.inl i∧v=Value.int i t)∨(∃x t,k=Sum.inr x∧v=Value.str x t)
 |.inl i,v,h=>by
  obtain⟨t,e⟩:=Value.isInt_shape (k:=i) (v:=v) h
  exact .inl ⟨i,t,rfl,e⟩
 |.inr x,v,h=>by
  obtain⟨t,e⟩:=Value.isStrOf_shape (x:=x) (v:=v) h
  exact .inr ⟨x,t,rfl,e⟩
theorem Kj (i:Int)(t:Tok):Hs (.inl i) (.int i t)=true:=by simp[Hs,Value.isInt]
theorem Kp (x:Str)(t:Tok):Hs (.inr x) (.str x t)=true:=by simp[Hs,Value.isStrOf]
theorem Sa (a b:Int):decide ((Sum.inl a:Key)=Sum.inl b)=(a==b):=by
 by_cases e:a=b
 ·subst e;simp
 ·have h:¬(Sum.inl a:Key)=Sum.inl b:=fun q=>e (Sum.inl.inj q)
  rw[decide_eq_false h]
  exact(beq_eq_false_iff_ne.mpr e).symm
theorem QJ (a b:Str):decide ((Sum.inr a:Key)=Sum.inr b)=decide (a=b):=by
 by_cases e:a=b
 ·subst e;simp
 ·have h:¬(Sum.inr a:Key)=Sum.inr b:=fun q=>e (Sum.inr.inj q)
  rw[decide_eq_false h,decide_eq_false e]
theorem Rl (a:Int)(b:Str):decide ((Sum.inl a:Key)=Sum.inr b)=false:=decide_eq_false (fun q=>nomatch q)
theorem QT (a:Str)(b:Int):decide ((Sum.inr a:Key)=Sum.inl b)=false:=decide_eq_false (fun q=>nomatch q)
def Cb (prog:Program)(w:World):PySem.KeyKind prog w Key where
 is:=Hs
 hash:=Y1 w
 inj:=fun v a b ha hb=>by
  rcases AM ha with⟨i,t,rfl,rfl⟩|⟨x,t,rfl,rfl⟩
  ·rcases AM hb with⟨j,u,rfl,e⟩|⟨y,u,rfl,e⟩
   ·injection e with e1 _;rw[e1]
   ·exact nomatch e
  ·rcases AM hb with⟨j,u,rfl,e⟩|⟨y,u,rfl,e⟩
   ·exact nomatch e
   ·injection e with e1 _;rw[e1]
 byValue:=fun k v h=>by
  rcases AM h with⟨i,t,rfl,rfl⟩|⟨x,t,rfl,rfl⟩<;>rfl
 pyHash:=fun hv h=>by
  rcases AM hv with⟨i,t,rfl,rfl⟩|⟨x,t,rfl,rfl⟩
  ·exact wpAny_pyHash_int h
  ·exact wpAny_pyHash_str h
 eqBool:=fun hu hv h=>by
  rcases AM hu with⟨i,t,rfl,rfl⟩|⟨x,t,rfl,rfl⟩
  ·rcases AM hv with⟨j,u,rfl,rfl⟩|⟨y,u,rfl,rfl⟩
   ·rw[Sa] at h;exact wpAny_eqBool_int h
   ·rw[Rl] at h;exact SeqAt.EqAt.int_str i t y u _ _ _ _ h
  ·rcases AM hv with⟨j,u,rfl,rfl⟩|⟨y,u,rfl,rfl⟩
   ·rw[QT] at h;exact SeqAt.EqAt.str_int x t j u _ _ _ _ h
   ·rw[QJ] at h;exact wpAny_eqBool_str h
 «strs»:=fun k x t v h=>by
  rcases AM h with⟨i,u,rfl,e⟩|⟨y,u,rfl,e⟩
  ·exact nomatch e
  ·injection e with e1 _
   subst e1
   cases v<;>rfl
theorem Qr (prog:Program)(w:World)(k:Key)(v:Value):(Cb prog w).is k v=Hs k v:=rfl
theorem PM (prog:Program)(w:World)(i:Int)(t:Tok):(Cb prog w).is (.inl i) (.int i t)=true:=Kj i t
theorem EC (prog:Program)(w:World)(x:Str)(t:Tok):(Cb prog w).is (.inr x) (.str x t)=true:=Kp x t
end L2
namespace L2
open PySem PySem.Spec PyProof.Rows
inductive V where
 |non|bl (b:Bool)|int (i:Int)|str (x:Str)|byt (b:Array UInt8)|flt (b:UInt64)|ref (a:Addr)|ty (n:String)
 deriving DecidableEq
def AN:V→Value→Prop
 |.non,u=>u=Value.none
 |.bl b,u=>u=Value.bool b
 |.int i,u=>∃t,u=Value.int i t
 |.str x,u=>∃t,u=Value.str x t
 |.byt b,u=>∃t,u=Value.bytes b t
 |.flt b,u=>∃t,u=Value.float b t
 |.ref a,u=>u=Value.ref a
 |.ty n,u=>u=Value.type n
abbrev AA:List V→List Value→Prop:=Paired AN
theorem AA.length {xs:List V}{us:List Value} (r:AA xs us):xs.length=us.length:=Paired.length r
theorem AA.get:∀{xs:List V}{us:List Value}{i:Nat}{x:V},AA xs us→xs[i]? = some x→∃u,us[i]? = some u∧AN x u
 |_,_,_,_,.nil,e=>by simp at e
 |_,_,0,_,.cons r _,e=>by simp at e;subst e;exact⟨_,rfl,r⟩
 |_,_,i+1,x,.cons _ t,e=>by
  obtain⟨u,h1,h2⟩:=AA.get (i:=i) (x:=x) t (by simpa using e)
  exact⟨u,by simpa using h1,h2⟩
theorem AA.set {x:V}{u:Value} (r:AN x u):∀{xs:List V}{us:List Value} (i:Nat),AA xs us→AA (xs.set i x) (us.set i u)
 |_,_,_,.nil=>.nil
 |_,_,0,.cons _ t=>.cons r t
 |_,_,i+1,.cons q t=>.cons q (AA.set r i t)
theorem AA.append:∀{xs ys:List V}{us ws:List Value},AA xs us→AA ys ws→AA (xs++ys) (us++ws)
 |_,_,_,_,.nil,s=>s
 |_,_,_,_,.cons r t,s=>.cons r (AA.append t s)
theorem AA.take:∀{xs:List V}{us:List Value} (n:Nat),AA xs us→AA (xs.take n) (us.take n)
 |_,_,0,_=>.nil
 |_,_,_+1,.nil=>.nil
 |_,_,n+1,.cons r t=>.cons r (AA.take n t)
theorem AA.drop:∀{xs:List V}{us:List Value} (n:Nat),AA xs us→AA (xs.drop n) (us.drop n)
 |_,_,0,r=>r
 |_,_,_+1,.nil=>.nil
 |_,_,n+1,.cons _ t=>AA.drop n t
theorem AA.none_of:∀{xs:List V}{us:List Value}{i:Nat},AA xs us→xs[i]? = none→us[i]? = none:=fun {xs us i} r e=>by
 have h1:=r.length
 have h2:xs.length≤i:=qAs.mp e
 exact qAs.mpr ()
def Kx:Option V→Option Value→Prop
 |some v,some u=>AN v u
 |none,none=>True
 |_,_=>False
def KV {κ:Type}:List (κ×V)→List (κ×Value)→Prop:=Paired fun(p:κ×V)(q:κ×Value)=>p.1=q.1∧AN p.2 q.2
def kV:Key→V
 |.inl i=>.int i
 |.inr x=>.str x
inductive HO where
 |lst (xs:List V)
 |tup (xs:List V)
 |dK (kvs:List (Key×V))|dT (kvs:List (List Key×V))
 |set (S:Int→Bool) (n:Nat)
 |ins (C dx:Addr) (fs:List (Str×V))
 |own (x:Addr)
 |xd (fs:List (Str×V))
 |met (f x:Addr)
 |rng (lo hi:Int)
 |frz (o:Obj) (u:HO)
 |tbl (ps:Array Value)
 |ext (φ:Heap→Prop)
abbrev Hp:=Addr→Option HO
def upd (H:Hp)(a:Addr)(o:HO):Hp:=fun b=>if b=a then some o else H b
theorem Ac {H:Hp}{a:Addr}{o:HO}:upd H a o a=some o:=by unfold upd;rw[if_pos rfl]
theorem Af {H:Hp}{a b:Addr}{o:HO} (h:b≠a):upd H a o b=H b:=by unfold upd;rw[if_neg h]
theorem UJ {H:Hp}{a:Addr}{o u:HO}:upd (upd H a o) a u=upd H a u:=by
 funext b;unfold upd;split<;>rfl
theorem YA {H:Hp}{a b:Addr}{o u:HO} (h:H a=some o) (h':H b=some u) (d:o≠u):a≠b:=by
 intro e;subst e;rw[h] at h';exact d (qAn h')
theorem Am {H:Hp}{a b:Addr}{o:HO} (h:H a=some o) (h':H b=none):a≠b:=by
 intro e;subst e;rw[h] at h';cases h'
def Ia (H:Hp)(h:Heap)(a:Addr):Prop:=∃tab:Array Value,h.get? a=some { cls:=.none,data:=.fields tab }∧TriplesOk tab.toList ∧
 ∀(pos:Pos)(cv:Value),codeAmong pos tab.toList=some cv→∃(c:Addr)(oc:Obj)(fs:Array Value)(nm:Str)(t:Nat),cv=.ref c∧H c=some (.frz oc (.own a))∧oc.data=.fields fs∧fs[1]? = some (.str nm t)
theorem Ia.stay {H H':Hp}{h h':Heap}{a:Addr} (x:Ia H h a) (k:∀o,h.get? a=some o→h'.get? a=some o) (hf:∀b o u,H b=some (.frz o u)→H' b=some (.frz o u)):Ia H' h' a:=by
 obtain⟨tab,e,tr,q⟩:=x
 refine⟨tab,k _ e,tr,fun pos cv z=>?_⟩
 obtain⟨c,oc,fs,nm,t,z1,z2,z3⟩:=q pos cv z
 exact⟨c,oc,fs,nm,t,z1,hf _ _ _ z2,z3⟩
section
variable (P:Program) (w:World)
def Bj (H:Hp)(h:Heap)(a:Addr):HO→Prop
 |.lst xs=>xs.length≤sizeLine∧∃(its:List Value)(n:Nat),AA xs its∧h.get? a=some { cls:=.type "list",data:=.seq its.toArray n }
 |.tup xs=>xs.length≤sizeLine∧∃its:List Value,AA xs its∧IsTup h a its.toArray
 |.dK kvs=>kvs.length≤sizeLine∧(a==sysModules)=false∧∃vs,KV kvs vs∧h.DictOf (Cb P w) a vs
 |.dT kvs=>kvs.length≤sizeLine∧(a==sysModules)=false∧∃xs:List (List Key×Addr×Value),
  Paired (fun(p:List Key×V)(q:List Key×Addr×Value)=>p.1=q.1∧H q.2.1=some (.tup (p.1.map kV))∧AN p.2 q.2.2) kvs xs ∧
  ∃o es ep,h.get? a=some o∧o.ExactDict∧o.data=.dict es ep∧es.toList=xs.map (entryOfKey (tupleKind (Cb P w)))∧(xs.map (·.1)).Nodup
 |.set S n=>h.SetOf (intKind P w) a S n
 |.ins C dx fs=>H dx=some (.own a)∧fs.length≤1000∧dx≠a∧h.get? a=some (PySem.W.instObj C dx) ∧
  ∃mA,h.Ns1 dx mA∧(∀f,Kx (fs.lookup f) (mA f))∧PySem.Within mA (fs.map (·.1))
 |.own _=>∃o,h.get? a=some o
 |.xd fs=>∃mA,h.Ns1 a mA∧∀f,Kx (fs.lookup f) (mA f)
 |.rng lo hi=>∃t u v,h.get? a=some { cls:=.type "range",data:=.fields #[.int lo t,.int hi u,.int 1 v] }
 |.frz o u=>h.get? a=some o∧Bj H h a u
 |.tbl _=>Ia H h a
 |.met f x=>h.get? a=some (PySem.W.methodObj (.ref f) (.ref x))
 |.ext φ=>φ h∧(∃o,h.get? a=some o)∧∀h1 h2:Heap,φ h1→(∀o,h1.get? a=some o→h2.get? a=some o)→φ h2
def HOk (H:Hp)(h:Heap):Prop:=∀a o,H a=some o→Bj P w H h a o
end
section
variable {P:Program}{w:World}{H H':Hp}{h h':Heap}{a:Addr}{o:HO}
theorem Bj.lt (x:Bj P w H h a o):a<h.objs.size:=by
 cases o with
 |lst xs=>obtain⟨_,_,_,_,e⟩:=x;exact qAh e
 |tup xs=>obtain⟨_,_,_,p⟩:=x;exact p.lt
 |dK kvs=>obtain⟨_,_,_,_,o,_,_,e,_⟩:=x;exact qAh e
 |dT kvs=>obtain⟨_,_,_,_,o,_,_,e,_⟩:=x;exact qAh e
 |set S n=>obtain⟨o,_,_,_,e,_⟩:=x;exact qAh e
 |ins C dx fs=>obtain⟨_,_,_,e,_⟩:=x;exact qAh e
 |own y=>obtain⟨_,e⟩:=x;exact qAh e
 |xd fs=>obtain⟨_,⟨_,_,_,e,_⟩,_⟩:=x;exact qAh e
 |rng lo hi=>obtain⟨_,_,_,e⟩:=x;exact qAh e
 |frz ob u=>obtain⟨e,_⟩:=x;exact qAh e
 |tbl ps=>obtain⟨_,e,_⟩:=x;exact qAh e
 |met f y=>exact qAh (show h.get? a=some _ from x)
 |ext φ=>obtain⟨_,⟨_,e⟩,_⟩:=x;exact qAh e
theorem Paired.mapP {α β:Type}{F G:α→β→Prop}:∀{l₁:List α}{l₂:List β},Paired F l₁ l₂→(∀a b,F a b→G a b)→Paired G l₁ l₂
 |_,_,.nil,_=>.nil
 |_,_,.cons r t,f=>.cons (f _ _ r) (Paired.mapP t f)
theorem Paired.imp' {α β:Type}{F G:α→β→Prop} (f:∀a b,F a b→G a b){l₁:List α}{l₂:List β} (r:Paired F l₁ l₂):Paired G l₁ l₂:=Paired.mapP r f
theorem Bj.stay (x:Bj P w H h a o)(k:∀b u,(b=a∨H b=some (.own a))→h.get? b=some u→h'.get? b=some u)
 (ho:∀b,H b=some (.own a)→H' b=some (.own a))(ht:∀b xs,H b=some (.tup xs)→H' b=some (.tup xs))(hf:∀b o u,H b=some (.frz o u)→H' b=some (.frz o u):=by intro _ _ _ q;exact q):Bj P w H' h' a o:=by
 induction o with
 |lst xs=>obtain⟨z,its,n,r,e⟩:=x;exact⟨z,its,n,r,k _ _ (.inl rfl) e⟩
 |tup xs=>obtain⟨z,its,r,ob,e,c⟩:=x;exact⟨z,its,r,ob,k _ _ (.inl rfl) e,c⟩
 |dK kvs=>obtain⟨z,y,vs,r,ob,es,ep,e,c⟩:=x;exact⟨z,y,vs,r,ob,es,ep,k _ _ (.inl rfl) e,c⟩
 |dT kvs =>
  obtain⟨z,y,xs,r,ob,es,ep,e,c⟩:=x
  exact⟨z,y,xs,Paired.mapP r fun p q z=>⟨z.1,ht _ _ z.2.1,z.2.2⟩,ob,es,ep,k _ _ (.inl rfl) e,c⟩
 |set S n=>obtain⟨ob,es,ep,t,e,c⟩:=x;exact⟨ob,es,ep,t,k _ _ (.inl rfl) e,c⟩
 |ins C dx fs =>
  obtain⟨d,z,ne,e,mA,⟨od,es,ep,e2,c⟩,r⟩:=x
  exact⟨ho _ d,z,ne,k _ _ (.inl rfl) e,mA,⟨od,es,ep,k _ _ (.inr d) e2,c⟩,r⟩
 |own y=>obtain⟨ob,e⟩:=x;exact⟨ob,k _ _ (.inl rfl) e⟩
 |xd fs=>obtain⟨mA,⟨od,es,ep,e,c⟩,r⟩:=x;exact⟨mA,⟨od,es,ep,k _ _ (.inl rfl) e,c⟩,r⟩
 |rng lo hi=>obtain⟨t,u,v,e⟩:=x;exact⟨t,u,v,k _ _ (.inl rfl) e⟩
 |frz ob u ih=>obtain⟨e,q⟩:=x;exact⟨k _ _ (.inl rfl) e,ih q⟩
 |tbl ps=>exact Ia.stay x (fun u q=>k _ _ (.inl rfl) q) hf
 |met f y =>
  have e:h.get? a=some (PySem.W.methodObj (.ref f) (.ref y)):=x
  show h'.get? a=some (PySem.W.methodObj (.ref f) (.ref y))
  exact k a _ (.inl rfl) e
 |ext φ=>obtain⟨p,⟨o,e⟩,st⟩:=x;exact⟨st _ _ p fun o q=>k _ _ (.inl rfl) q,⟨o,k _ _ (.inl rfl) e⟩,st⟩
theorem HOk.lt (x:HOk P w H h)(e:H a=some o):a<h.objs.size:=(x a o e).lt
theorem HOk.fresh (x:HOk P w H h)(e:h.objs.size≤a):H a=none:=by
 cases q:H a with
 |none=>rfl
 |some u=>exact absurd (qAr (x.lt q) e) (qA3 _)
theorem HOk.kept (x:HOk P w H h)(k:∀b u,h.get? b=some u→h'.get? b=some u):HOk P w H h':=fun a o e =>
 (x a o e).stay (fun b u _ q=>k b u q) (fun _ q=>q) fun _ _ q=>q
theorem HOk.laid (x:HOk P w H h)(k:∀b u,h.get? b=some u→h'.get? b=some u)(hp:h.objs.size≤a)(new:Bj P w (upd H a o) h' a o):HOk P w (upd H a o) h':=fun b u e=>by
 have hn:=x.fresh hp
 by_cases hb:b=a
 ·subst hb;rw[Ac] at e;cases e;exact new
 ·rw[Af hb] at e
  exact(x b u e).stay (hf:=fun c w1 w2 q=>by rw[Af (Am q hn)];exact q) (fun c v _ q=>k c v q) (fun c q=>by rw[Af (Am q hn)];exact q) fun c xs q=>by rw[Af (Am q hn)];exact q
end
def Rd (H:Hp)(a:Addr)(u:HO):Prop:=H a=some u∨∃o,H a=some (.frz o u)
theorem Rd.of {H:Hp}{a:Addr}{u:HO} (h:H a=some u):Rd H a u:=.inl h
theorem Rd.ok {P:Program}{w:World}{H:Hp}{h:Heap}{a:Addr}{u:HO} (r:Rd H a u) (x:HOk P w H h):Bj P w H h a u:=by
 rcases r with r|⟨o,r⟩
 ·exact x a u r
 ·obtain⟨_,q⟩:=x a _ r
  exact q
def Mut:Option HO→Prop
 |some (.lst _)=>True
 |some (.dK _)=>True
 |some (.dT _)=>True
 |some (.set _ _)=>True
 |some (.ins _ _ _)=>True
 |some (.ext _)=>True
 |_=>False
section
variable {P:Program}{w:World}{H:Hp}{h h':Heap}{x e:Addr}{o':HO}
theorem HOk.write (ok:HOk P w H h)(mu:Mut (H x))(he:e=x∨H e=some (.own x))(k:∀b u,b≠e→h.get? b=some u→h'.get? b=some u)(heo:∃u,h'.get? e=some u)
 (new:Bj P w (upd H x o') h' x o'):HOk P w (upd H x o') h':=fun b u q=>by
 have nown:∀c y,H c=some (.own y)→c≠x:=fun c y r z=>by subst z;rw[r] at mu;exact mu
 have ntup:∀c xs,H c=some (.tup xs)→c≠x:=fun c xs r z=>by subst z;rw[r] at mu;exact mu
 by_cases hb:b=x
 ·subst hb;rw[Ac] at q;cases q;exact new
 ·rw[Af hb] at q
  by_cases hbe:b=e
  ·have q':H b=some (.own x):=by
    rcases he with z|z
    ·exact absurd (hbe.trans z) hb
    ·rw[hbe];exact z
   rw[q] at q';cases q'
   obtain⟨v,hv⟩:=heo
   exact⟨v,by rw[hbe];exact hv⟩
  ·refine(ok b u q).stay (hf:=fun c w1 w2 r=>by rw[Af (fun z=>by subst z;rw[r] at mu;exact mu)];exact r) (fun c v hc r=>k c v ?_ r) (fun c r=>by rw[Af (nown c b r)];exact r) fun c xs r=>by rw[Af (ntup c xs r)];exact r
   rcases hc with rfl|hc
   ·exact hbe
   ·rintro rfl
    rcases he with z|z
    ·exact nown c b hc z
    ·rw[hc] at z;cases z;exact hb rfl
end
structure Un (fs ex:List Addr)(H H':Hp)(h h':Heap):Prop where
 keep:∀b o,h.get? b=some o→H b=none→b∉fs→b∉ex→h'.get? b=some o
 slot:∀b o,h.get? b=some o→H b=none→b∈fs→b∉ex→∃sl,h'.get? b=some { o with slots:=sl }
 free:∀b o,h.get? b=some o→H b=none→b∉ex→H' b=none
 there:∀b o,h.get? b=some o→b∉ex→∃o',h'.get? b=some o'
 tups:∀b xs,H b=some (.tup xs)→H' b=some (.tup xs)
 frzs:∀b o u,H b=some (.frz o u)→H' b=some (.frz o u)
 tbls:∀b ps,H b=some (.tbl ps)→∃more,H' b=some (.tbl (ps++more))
section
variable {fs fs' ex ex':List Addr}{H H1 H2:Hp}{h h1 h2 h':Heap}{a x e:Addr}{o:HO}
theorem Un.any (u:Un fs ex H H1 h h1){b:Addr}{ob:Obj} (q:h.get? b=some ob) (n:H b=none) (hx:b∉ex):∃sl,h1.get? b=some { ob with slots:=sl }:=by
 by_cases hb:b∈fs
 ·exact u.slot b ob q n hb hx
 ·exact⟨ob.slots,u.keep b ob q n hb hx⟩
theorem Un.trans (a:Un fs ex H H1 h h1)(b:Un fs ex H1 H2 h1 h2):Un fs ex H H2 h h2 where
 keep:=fun c ob q n hc hx=>b.keep c ob (a.keep c ob q n hc hx) (a.free c ob q n hx) hc hx
 slot:=fun c ob q n hc hx=>by
  obtain⟨sl,e1⟩:=a.slot c ob q n hc hx
  obtain⟨sl',e2⟩:=b.slot c _ e1 (a.free c ob q n hx) hc hx
  exact⟨sl',e2⟩
 free:=fun c ob q n hx=>by
  obtain⟨o',e1⟩:=a.there c ob q hx
  exact b.free c o' e1 (a.free c ob q n hx) hx
 there:=fun c ob q hx=>by
  obtain⟨o',e1⟩:=a.there c ob q hx
  exact b.there c o' e1 hx
 tups:=fun c xs q=>b.tups c xs (a.tups c xs q)
 frzs:=fun c ob xs q=>b.frzs c ob xs (a.frzs c ob xs q)
 tbls:=fun c ps q=>by
  obtain⟨m1,e1⟩:=a.tbls c ps q
  obtain⟨m2,e2⟩:=b.tbls c _ e1
  exact⟨m1++m2,by rw[e2,Array.append_assoc]⟩
theorem Un.kept (k:∀b u,h.get? b=some u→h'.get? b=some u):Un fs ex H H h h' :=
 ⟨fun b ob q _ _ _=>k b ob q,fun b ob q _ _ _=>⟨ob.slots,k b ob q⟩,fun _ _ _ n _=>n,fun b ob q _=>⟨ob,k b ob q⟩,fun _ _ q=>q,fun _ _ _ q=>q,fun _ ps q=>⟨#[],by rw[q];simp⟩⟩
theorem Un.refl:Un fs ex H H h h:=Un.kept fun _ _ q=>q
theorem Un.laid (k:∀b u,h.get? b=some u→h'.get? b=some u)(hp:h.objs.size≤a)(hn:H a=none):Un fs ex H (upd H a o) h h' where
 keep:=fun b u q _ _ _=>k b u q
 slot:=fun b u q _ _ _=>⟨u.slots,k b u q⟩
 free:=fun b u q n _=>by rw[Af (qAo (qAr (qAh q) hp))];exact n
 there:=fun b u q _=>⟨u,k b u q⟩
 tups:=fun b xs q=>by rw[Af (Am q hn)];exact q
 frzs:=fun b u xs q=>by rw[Af (Am q hn)];exact q
 tbls:=fun b ps q=>⟨#[],by rw[Af (Am q hn),q];simp⟩
theorem Un.write (mu:Mut (H x))(he:e=x∨H e=some (.own x))(k:∀b u,b≠e→h.get? b=some u→h'.get? b=some u)(heo:∃u,h'.get? e=some u):Un fs ex H (upd H x o) h h':=by
 have hx:∀b,H b=none→b≠x:=fun b n z=>by subst z;rw[n] at mu;exact mu
 have hb:∀b,H b=none→b≠e:=fun b n z=>by
  subst z
  rcases he with r|r
  ·exact hx b n r
  ·rw[n] at r;cases r
 have hm:∀b u,H b=some u→¬Mut (some u)→b≠x:=fun b u q nm z=>by subst z;rw[q] at mu;exact nm mu
 refine⟨fun b u q n _ _=>k b u (hb b n) q,fun b u q n _ _=>⟨u.slots,k b u (hb b n) q⟩,fun b u q n _=>by rw[Af (hx b n)];exact n,fun b u q _=>?_,
  fun b xs q=>by rw[Af (hm b _ q fun z=>z)];exact q,fun b u xs q=>by rw[Af (hm b _ q fun z=>z)];exact q,fun b ps q=>⟨#[],by rw[Af (hm b _ q fun z=>z),q];simp⟩⟩
 by_cases hbe:b=e
 ·subst hbe;exact heo
 ·exact⟨u,k b u hbe q⟩
theorem Un.mono (u:Un fs ex H H1 h h1)(hs:∀b∈fs,b∈fs')(hx:∀b∈ex,b∈ex'):Un fs' ex' H H1 h h1 :=
 ⟨fun b ob q n hb he=>u.keep b ob q n (fun z=>hb (hs b z)) fun z=>he (hx b z),fun _ _ q n _ he=>u.any q n fun z=>he (hx _ z),fun b ob q n he=>u.free b ob q n fun z=>he (hx b z),fun b ob q he=>u.there b ob q fun z=>he (hx b z),u.tups,u.frzs,u.tbls⟩
end
def trk (h:Heap)(H:Hp):List Addr:=(List.range h.objs.size).filter fun a=>(H a).isSome
def L8 (h:Heap)(H:Hp):Heap:=PySem.W.hideAll h (trk h H)
theorem KS (h:Heap)(H:Hp):(L8 h H).objs.size=h.objs.size:=PySem.W.hideAll_size _ _
theorem MN {h:Heap}{H:Hp}{b:Addr}{o:Obj} (e:h.get? b=some o) (n:H b=none):(L8 h H).get? b=some o :=
 PySem.W.hideAll_get _ e fun hm=>by
  have q:(H b).isSome=true:=(qBN.mp hm).2
  rw[n] at q;simp at q
theorem OJ {h:Heap}{H:Hp}{b:Addr}{o:Obj} (e:(L8 h H).get? b=some o):h.get? b=some o∧H b=none:=by
 have e':h.get? b=some o:=PySem.W.of_hideAll (trk h H) e
 refine⟨e',?_⟩
 cases q:H b with
 |none=>rfl
 |some x =>
  have hm:b∈trk h H:=qBN.mpr ⟨qAV.mpr (qAh e'),by simp[q]⟩
  have z:(L8 h H).get? b=none:=PySem.W.hideAll_none (trk h H) hm
  rw[z] at e;cases e
def FL (g h:Heap)(L:Addr):List (Addr×Obj):=(List.range h.objs.size).filterMap fun a=>if a=L∨(g.get? a).isSome=true then none else (h.get? a).map fun o=>(a,o)
theorem HI {g h:Heap}{L a:Addr}{o:Obj} (h1:a≠L) (h2:g.get? a=none) (h3:h.get? a=some o):(a,o)∈FL g h L :=
 qBd.mpr ⟨a,qAV.mpr (qAh h3),by simp[h1,h2,h3]⟩
theorem EV {g h:Heap}{L:Addr}{p:Addr×Obj} (hp:p∈FL g h L):p.1≠L∧g.get? p.1=none∧h.get? p.1=some p.2:=by
 obtain⟨b,_,e⟩:=qBd.mp hp
 split at e
 ·cases e
 ·rename_i hn
  cases q:h.get? b with
  |none=>rw[q] at e;simp at e
  |some u =>
   rw[q] at e
   simp only[Option.map_some,Option.some.injEq] at e
   subst e
   refine⟨fun z=>hn (.inl z),?_,q⟩
   show g.get? b=none
   cases r:g.get? b with
   |none=>rfl
   |some v=>exact(hn (.inr (by simp[r]))).elim
def Cp (g h:Heap)(L d:Addr):List (Addr×Obj):=(FL g h L).filter fun p=>decide (p.1≠d)
theorem UP {g h:Heap}{L d:Addr}:∀p∈Cp g h L d,p.1≠d:=fun p hp=>of_decide_eq_true (qBN.mp hp).2
theorem Mm {g h:Heap}{L d a:Addr}{o:Obj} (h1:a≠L) (h2:g.get? a=none) (h3:h.get? a=some o) (h4:a≠d):(a,o)∈Cp g h L d :=
 qBN.mpr ⟨HI h1 h2 h3,decide_eq_true h4⟩
theorem Mt {g h:Heap}{L:Addr}:News g L h (FL g h L):=fun p hp=>let ⟨a,b,c⟩:=EV hp;⟨c,a,b⟩
theorem VR {g h:Heap}{L d:Addr}{o:Obj} (h1:d≠L) (h2:g.get? d=none) (h3:h.get? d=some o):News g L h ((d,o)::Cp g h L d):=fun p hp=>by
 rcases qAq.mp hp with rfl|hp
 ·exact⟨h3,h1,h2⟩
 ·exact Mt p (qBN.mp hp).1
theorem N2 {g h h':Heap}{L d:Addr}{m:Str→Option Value} (k:∀b o,g.get? b=some o→h.get? b=some o) (F:Fr g L h' m) (N:News g L h' (Cp g h L d)) :
 ∀b o,b≠L→b≠d→h.get? b=some o→h'.get? b=some o:=fun b o h1 h2 e=>by
 cases q:g.get? b with
 |some u =>
  have:=k b u q
  rw[e] at this;cases this
  exact F.keep b _ q
 |none=>exact(N (b,o) (Mm h1 q e h2)).1
end L2
namespace L2
open PySem PySem.Spec PyProof.Rows
structure Mod (K:PySem.W.Frag)(mg:Str→Option Value)(base:Heap):Prop where
 kin:K.In base
 glob:base.Ns mainGlobals mg
 blt:∃mb,base.Ns builtinsNs mb∧∀x:Str,x≠"__name__"→mb x=bootBuiltins x
 nolimit:base.NoLimit
structure Cx where
 prog:Program
 w:World
 K:PySem.W.Frag
 mg:Str→Option Value
 base:Heap
 A:Around
 N:List Str
 s₀:Shared
 H₀:Hp
 env:Env
 outer:List Env
 stack:List Env
 ex:List Addr
 fn:Str→Bool
 calm:Bool
 pn:List (Addr×Obj)
 xe:Value→Shared→Prop
 lent:Option (Nat×Addr):=none
def frs (l:List Env):List Addr:=l.filterMap (·.frame)
abbrev Cx.fs (X:Cx):List Addr:=frs X.outer
def Vis (sc:Scope)(x:Str):Prop:=sc.names.lookup x=some .local∨sc.names.lookup x=some .cell∨sc.names.lookup x=some .free
def Loc (sc:Scope)(x:Str):Prop:=sc.names.lookup x=some .local∨sc.names.lookup x=some .cell
def XU (env:Env)(h:Heap)(m:Str→Option Value)(x:Str)(u:Value):Prop :=
 (env.kindOf x=some .local∧m x=some u)∨((env.kindOf x=some .cell∨env.kindOf x=some .free)∧∃c,env.cells.lookup x=some c∧h.IsCell c (some u))
structure TB (P:Program)(K:PySem.W.Frag)(mg:Str→Option Value)(base:Heap)(H:Hp):Prop where
 bm:∃(b:Addr)(o:Obj),mg "__builtins__"=some (.ref b)∧b≠builtinsNs∧base.get? b=some o∧o.cls=.type "module"∧o.dict=some builtinsNs∧o.data=.plain
 tab:∀(x:Str)(c T:Addr),PySem.W.tabIn K x=some (c,T)→(recsOf P).any (fun d=>d.name==x)=true→PySem.W.CodeHd base c T∧∃ps,H T=some (.tbl ps)
structure Cx.Ok (X:Cx):Prop where
 mod:Mod X.K X.mg X.base
 kind:X.env.scope.kind=.function
 glob:X.env.globals=mainGlobals
 blt:X.env.builtins=builtinsNs
 above:X.s₀.heap.objs.size≤X.env.locals
 inj:∀x y c,X.env.cells.lookup x=some c→X.env.cells.lookup y=some c→x=y
 has:∀x,(X.env.kindOf x=some .cell∨X.env.kindOf x=some .free)→∃c,X.env.cells.lookup x=some c
 cab:∀x c,X.fn x=true→X.env.cells.lookup x=some c→X.s₀.heap.objs.size≤c
 hd:X.calm=true→X.A.handled=none
 frames:X.A.frames=some X.stack
 stk:X.stack=X.outer∨(X.stack=X.env::X.outer∧X.env.frame=some X.env.locals)
 exf:∀b∈X.ex,b≠X.env.locals∧∀x c,X.env.cells.lookup x=some c→c≠b
 bs:∀b o,X.base.get? b=some o→X.s₀.heap.get? b=some o∧X.H₀ b=none
 bsz:X.base.objs.size≤X.s₀.heap.objs.size
 noex:∀b o,X.base.get? b=some o→b∉X.ex
 exfs:∀b∈X.ex,b∉X.fs
 funs:X.s₀.heap.FunFrames X.base X.outer
 frf:∀b∈X.fs,X.H₀ b=none
 tb:TB X.prog X.K X.mg X.base X.H₀
structure Inv (X:Cx)(pins:List (Addr×Obj))(σ:List (Option V))(H:Hp)(s:Shared):Prop where
 ok:X.Ok
 os:s.os=X.s₀.os
 bare:AllBare s.gens
 base:Un X.fs X.ex X.H₀ H X.s₀.heap s.heap
 loc:∃m,s.heap.Ns X.env.locals m∧∀(i:Nat)(x:Str)(v:V),X.N[i]? = some x→σ[i]? = some (some v)→Vis X.env.scope x→∃u,AN v u∧XU X.env s.heap m x u
 cell:∀x c,X.env.cells.lookup x=some c→∃v,s.heap.IsCell c v
 free:H X.env.locals=none
 freeC:∀x c,X.env.cells.lookup x=some c→H c=none
 pin:∀p∈X.pn++pins,s.heap.get? p.1=some p.2∧H p.1=none∧p.1≠X.env.locals∧p.1∉X.fs∧∀v,p.2.data≠.cell v
 hok:HOk X.prog X.w H s.heap
 len:σ.length=X.N.length
section
variable {X:Cx}{pins:List (Addr×Obj)}{σ:List (Option V)}{H H':Hp}{s:Shared}{h':Heap}
theorem Cx.Ok.nofr (ok:X.Ok){b:Addr}{o:Obj} (e:X.base.get? b=some o):b∉X.fs:=fun hb=>by
 have:=(ok.funs.mem hb).1
 rw[e] at this;cases this
theorem Inv.bs (I:Inv X pins σ H s):∀b o,X.base.get? b=some o→s.heap.get? b=some o∧H b=none:=fun b o e =>
 ⟨I.base.keep b o (I.ok.bs b o e).1 (I.ok.bs b o e).2 (I.ok.nofr e) (I.ok.noex b o e),I.base.free b o (I.ok.bs b o e).1 (I.ok.bs b o e).2 (I.ok.noex b o e)⟩
theorem Inv.bk (I:Inv X pins σ H s):∀b o,X.base.get? b=some o→s.heap.get? b=some o:=fun b o e=>(I.bs b o e).1
theorem Inv.tb (I:Inv X pins σ H s):TB X.prog X.K X.mg X.base H:=⟨I.ok.tb.bm,fun x c T h1 h2=>by
 obtain⟨z,ps,e⟩:=I.ok.tb.tab x c T h1 h2
 obtain⟨more,e'⟩:=I.base.tbls T ps e
 exact⟨z,_,e'⟩⟩
theorem Inv.mod (I:Inv X pins σ H s):Mod X.K X.mg X.base:=I.ok.mod
theorem Inv.kIn (I:Inv X pins σ H s):X.K.In s.heap:=I.ok.mod.kin.keeps I.bk
theorem Inv.nolimit (I:Inv X pins σ H s):s.heap.NoLimit:=I.ok.mod.nolimit.keeps I.bk
theorem Inv.fr (I:Inv X pins σ H s):∃m,Fr X.base X.env.locals s.heap m :=
 let ⟨m,hn,_⟩:=I.loc
 ⟨m,hn,I.bk,qAE I.ok.bsz I.ok.above⟩
theorem Inv.lt (I:Inv X pins σ H s):X.env.locals<s.heap.objs.size:=let ⟨_,hn,_⟩:=I.loc;hn.lt
theorem Inv.sz (I:Inv X pins σ H s):X.s₀.heap.objs.size≤s.heap.objs.size:=qAE I.ok.above (qBi I.lt)
theorem Inv.nofs (I:Inv X pins σ H s){a:Addr} (h:s.heap.objs.size≤a):a∉X.fs:=fun hb=>by
 obtain⟨_,o,ho,_⟩:=I.ok.funs.mem hb
 exact absurd (qAr (qAh ho) (qAE I.sz h)) (qA3 _)
theorem Inv.cne (I:Inv X pins σ H s):∀x c,X.env.cells.lookup x=some c→c≠X.env.locals:=fun x c e z=>by
 obtain⟨v,o,ho,hd⟩:=I.cell x c e
 obtain⟨m,⟨o',es,ep,ho',hd',_⟩,_⟩:=I.loc
 rw[z,ho'] at ho;cases ho;rw[hd'] at hd;cases hd
theorem Inv.funs (I:Inv X pins σ H s):s.heap.FunFrames X.base X.outer:=by
 have all:∀(l:List Env),(∀b∈frs l,b∈X.fs)→X.s₀.heap.FunFrames X.base l→s.heap.FunFrames X.base l:=by
  intro l
  induction l with
  |nil=>intro _ _;trivial
  |cons env r ih =>
   intro hs hl
   obtain⟨hk,⟨L,o,hf,hn,ho,hd⟩,hr⟩:=hl
   have hL:L∈X.fs:=hs L (by unfold frs;rw[qBJ,hf];exact qAt)
   obtain⟨sl,e⟩:=I.base.slot L o ho (I.ok.frf L hL) hL fun z=>I.ok.exfs L z hL
   exact⟨hk,⟨L,_,hf,hn,e,hd⟩,ih (fun b hb=>hs b (by unfold frs;rw[qBJ,hf];exact qAi _ hb)) hr⟩
 exact all X.outer (fun _ hb=>hb) I.ok.funs
theorem Inv.stack (I:Inv X pins σ H s):s.heap.FunFrames X.base X.stack:=by
 rcases I.ok.stk with e|⟨e,hf⟩
 ·rw[e];exact I.funs
 ·rw[e]
  obtain⟨m,hn,_⟩:=I.loc
  refine .cons (by rw[I.ok.kind];decide) hf hn ?_ I.funs
  exact Heap.get?_none_of_le (qAE I.ok.bsz I.ok.above)
theorem Inv.stkSub (I:Inv X pins σ H s):∀b∈frs X.stack,b∈X.env.locals::X.fs:=fun b hb=>by
 rcases I.ok.stk with e|⟨e,hf⟩
 ·rw[e] at hb;exact qAi _ hb
 ·rw[e] at hb
  unfold frs at hb
  rw[qBJ,hf] at hb
  exact hb
theorem Inv.stkFree (I:Inv X pins σ H s):∀b∈frs X.stack,H b=none:=fun b hb=>by
 rcases qAq.mp (I.stkSub b hb) with e|hb
 ·rw[e];exact I.free
 ·obtain⟨_,o,ho,_⟩:=I.ok.funs.mem hb
  exact I.base.free b o ho (I.ok.frf b hb) fun z=>I.ok.exfs b z hb
theorem Inv.step {g':Array GenState}{t':Nat}{d':Drawn}{ch:List Addr} (I:Inv X pins σ H s)
 (hch:∀b∈ch,(b∈X.ex∨X.s₀.heap.objs.size≤b)∧b≠X.env.locals∧(∀x c,X.env.cells.lookup x=some c→c≠b)∧∀p∈X.pn++pins,p.1≠b)
 (keep:∀b o,b≠X.env.locals→b∉X.fs→b∉ch→s.heap.get? b=some o→H b=none→h'.get? b=some o)
 (slot:∀b o,b≠X.env.locals→b∈X.fs→b∉ch→s.heap.get? b=some o→H b=none→∃sl,h'.get? b=some { o with slots:=sl }) (free:∀b o,b∉ch→s.heap.get? b=some o→H b=none→H' b=none)
 (there:∀b o,b∉ch→s.heap.get? b=some o→∃o',h'.get? b=some o')
 (tups:∀b xs,H b=some (.tup xs)→H' b=some (.tup xs)) (frzs:∀b o u,H b=some (.frz o u)→H' b=some (.frz o u)) (tbls:∀b ps,H b=some (.tbl ps)→∃more,H' b=some (.tbl (ps++more)))
 (ns:∀m,s.heap.Ns X.env.locals m→h'.Ns X.env.locals m) (hok:HOk X.prog X.w H' h') (hg:AllBare g') :
 Inv X pins σ H' { s with heap:=h',gens:=g',drawn:=d',toks:=t' }:=by
 have neL:∀b o,X.s₀.heap.get? b=some o→b≠X.env.locals:=fun b o e=>qAo (qAr (qAh e) I.ok.above)
 have neC:∀b o,X.s₀.heap.get? b=some o→b∉X.ex→b∉ch:=fun b o e hx hb=>by
  rcases(hch b hb).1 with z|z
  ·exact hx z
  ·exact absurd (qAr (qAh e) z) (qA3 _)
 have cellK:∀x c,X.env.cells.lookup x=some c→∀v,s.heap.IsCell c v→h'.IsCell c v:=fun x c e v hh=>by
  obtain⟨o,ho,hd⟩:=hh
  have nch:c∉ch:=fun z=>(hch c z).2.2.1 x c e rfl
  by_cases hc:c∈X.fs
  ·obtain⟨sl,q⟩:=slot c o (I.cne x c e) hc nch ho (I.freeC x c e)
   exact⟨_,q,hd⟩
  ·exact⟨o,keep c o (I.cne x c e) hc nch ho (I.freeC x c e),hd⟩
 refine⟨I.ok,I.os,hg,⟨fun b o e n hb hx=>?_,fun b o e n hb hx=>?_,fun b o e n hx=>?_,fun b o e hx=>?_,fun b xs e=>tups b xs (I.base.tups b xs e),fun b o xs e=>frzs b o xs (I.base.frzs b o xs e),fun b ps e=>?_⟩,?_,fun x c e=>?_,?_,fun x c e=>?_,fun p hp=>?_,hok,I.len⟩
 ·exact keep b o (neL b o e) hb (neC b o e hx) (I.base.keep b o e n hb hx) (I.base.free b o e n hx)
 ·obtain⟨sl,e1⟩:=I.base.slot b o e n hb hx
  obtain⟨sl',e2⟩:=slot b _ (neL b o e) hb (neC b o e hx) e1 (I.base.free b o e n hx)
  exact⟨sl',e2⟩
 ·obtain⟨o',e1⟩:=I.base.there b o e hx
  exact free b o' (neC b o e hx) e1 (I.base.free b o e n hx)
 ·obtain⟨o',e1⟩:=I.base.there b o e hx
  exact there b o' (neC b o e hx) e1
 ·obtain⟨m1,e1⟩:=I.base.tbls b ps e
  obtain⟨m2,e2⟩:=tbls b _ e1
  exact⟨m1++m2,by rw[e2,Array.append_assoc]⟩
 ·obtain⟨m,hn,hl⟩:=I.loc
  refine⟨m,ns m hn,fun i x v e1 e2 e3=>?_⟩
  obtain⟨u,r,l⟩:=hl i x v e1 e2 e3
  refine⟨u,r,?_⟩
  rcases l with l|⟨k,c,e,z⟩
  ·exact .inl l
  ·exact .inr ⟨k,c,e,cellK x c e _ z⟩
 ·obtain⟨v,z⟩:=I.cell x c e
  exact⟨v,cellK x c e v z⟩
 ·obtain⟨m,⟨o,_,_,ho,_⟩,_⟩:=I.loc
  exact free _ o (fun z=>(hch _ z).2.1 rfl) ho I.free
 ·obtain⟨v,o,ho,hd⟩:=I.cell x c e
  exact free c o (fun z=>(hch c z).2.2.1 x c e rfl) ho (I.freeC x c e)
 ·obtain⟨e,n,ne,nf,d⟩:=I.pin p hp
  have nch:p.1∉ch:=fun z=>(hch p.1 z).2.2.2 p hp rfl
  exact⟨keep p.1 p.2 ne nf nch e n,free p.1 p.2 nch e n,ne,nf,d⟩
theorem Inv.un {t':Nat} (I:Inv X pins σ H s) (u:Un X.fs [] H H' s.heap h') (hok:HOk X.prog X.w H' h'):Inv X pins σ H' { s with heap:=h',toks:=t' }:=by
 obtain⟨m,⟨o,es,ep,ho,r⟩,_⟩:=id I.loc
 obtain⟨sl,hL⟩:=u.any ho I.free (by simp)
 exact I.step (g':=s.gens) (d':=s.drawn) (ch:=[]) (fun _ z=>nomatch z) (fun b o _ hb _ e n=>u.keep b o e n hb (by simp)) (fun b o _ hb _ e n=>u.slot b o e n hb (by simp)) (fun b o _ e n=>u.free b o e n (by simp)) (fun b o _ e=>u.there b o e (by simp)) u.tups u.frzs u.tbls (fun m' hm=>by
  obtain⟨o',es',ep',ho',r'⟩:=hm
  rw[ho] at ho';cases ho'
  exact⟨_,es',ep',hL,r'⟩) hok I.bare
theorem Inv.call {g':Array GenState}{t':Nat}{d':Drawn}{ch:List Addr} (I:Inv X pins σ H s) (u:Un (frs X.stack) ch H H' s.heap h') (hok:HOk X.prog X.w H' h') (hg:AllBare g')
 (hch:∀b∈ch,(b∈X.ex∨X.s₀.heap.objs.size≤b)∧b≠X.env.locals∧(∀x c,X.env.cells.lookup x=some c→c≠b)∧∀p∈X.pn++pins,p.1≠b) :
 Inv X pins σ H' { s with heap:=h',gens:=g',drawn:=d',toks:=t' }:=by
 obtain⟨m,⟨o,es,ep,ho,r⟩,_⟩:=id I.loc
 obtain⟨sl,hL⟩:=u.any ho I.free fun z=>(hch _ z).2.1 rfl
 exact I.step (ch:=ch) hch (fun b o hL hb hc e n=>u.keep b o e n (fun z=>(qAq.mp (I.stkSub b z)).elim hL hb) hc) (fun b o _ _ hc e n=>u.any e n hc) (fun b o hc e n=>u.free b o e n hc) (fun b o hc e=>u.there b o e hc) u.tups u.frzs u.tbls (fun m' hm=>by
  obtain⟨o',es',ep',ho',r'⟩:=hm
  rw[ho] at ho';cases ho'
  exact⟨_,es',ep',hL,r'⟩) hok hg
theorem Inv.turned {t':Nat}{it:Addr} (I:Inv X pins σ H s) (k:∀b o,b≠it→s.heap.get? b=some o→h'.get? b=some o) (hn:H it=none) (hL:it≠X.env.locals)
 (h1:it∈X.ex∨X.s₀.heap.objs.size≤it) (h2:∀x c,X.env.cells.lookup x=some c→c≠it) (h3:∀p∈X.pn++pins,p.1≠it):Inv X pins σ H { s with heap:=h',toks:=t' }:=by
 have nit:∀b u,H b=some u→b≠it:=fun b u e z=>by rw[z,hn] at e;cases e
 refine I.step (g':=s.gens) (d':=s.drawn) (ch:=[it]) (fun b hb=>?_) (fun b o _ _ hc e _=>k b o (fun z=>hc (by simp[z])) e) (fun b o _ _ hc e _=>⟨o.slots,k b o (fun z=>hc (by simp[z])) e⟩) (fun _ _ _ _ n=>n)
  (fun b o hc e=>⟨o,k b o (fun z=>hc (by simp[z])) e⟩) (fun _ _ e=>e) (fun _ _ _ e=>e) (fun b ps e=>⟨#[],by rw[e];simp⟩) (fun m hm=>?_) (fun b u e=>?_) I.bare
 ·have e:b=it:=by simpa using hb
  subst e
  exact⟨h1,hL,h2,h3⟩
 ·obtain⟨o,es,ep,ho,r⟩:=hm
  exact⟨o,es,ep,k _ o (Ne.symm hL) ho,r⟩
 ·refine(I.hok b u e).stay (fun c v hc q=>k c v ?_ q) (fun _ q=>q) fun _ _ q=>q
  rcases hc with z|z
  ·rw[z];exact nit b u e
  ·exact nit c _ z
theorem Inv.tok (I:Inv X pins σ H s)(t:Nat):Inv X pins σ H { s with toks:=t }:=I.un (h':=s.heap) (t':=t) Un.refl I.hok
theorem Inv.kept {t':Nat} (I:Inv X pins σ H s) (k:∀b u,s.heap.get? b=some u→h'.get? b=some u):Inv X pins σ H { s with heap:=h',toks:=t' }:=I.un (Un.kept k) (I.hok.kept k)
theorem Inv.laid {a:Addr}{o:HO}{t':Nat} (I:Inv X pins σ H s) (k:∀b u,s.heap.get? b=some u→h'.get? b=some u) (hp:s.heap.objs.size≤a) (new:Bj X.prog X.w (upd H a o) h' a o) :
 Inv X pins σ (upd H a o) { s with heap:=h',toks:=t' }:=I.un (Un.laid k hp (I.hok.fresh hp)) (I.hok.laid k hp new)
theorem Inv.write {x e:Addr}{o:HO}{t':Nat} (I:Inv X pins σ H s) (mu:Mut (H x)) (he:e=x∨H e=some (.own x)) (k:∀b u,b≠e→s.heap.get? b=some u→h'.get? b=some u) (heo:∃u,h'.get? e=some u)
 (new:Bj X.prog X.w (upd H x o) h' x o):Inv X pins σ (upd H x o) { s with heap:=h',toks:=t' }:=I.un (Un.write mu he k heo) (I.hok.write mu he k heo new)
theorem Inv.weak {σ':List (Option V)} (I:Inv X pins σ H s) (hl:σ'.length=σ.length) (w:∀(i:Nat) v,σ'[i]? = some (some v)→σ[i]? = some (some v)):Inv X pins σ' H s :=
 ⟨I.ok,I.os,I.bare,I.base,let ⟨m,hn,hl'⟩:=I.loc;⟨m,hn,fun i x v e1 e2 e3=>hl' i x v e1 (w i v e2) e3⟩,I.cell,I.free,I.freeC,I.pin,I.hok,hl.trans I.len⟩
theorem Inv.pins_of {pins':List (Addr×Obj)} (I:Inv X pins σ H s) (h:∀p∈pins',s.heap.get? p.1=some p.2∧H p.1=none∧p.1≠X.env.locals∧p.1∉X.fs∧∀v,p.2.data≠.cell v):Inv X pins' σ H s :=
 ⟨I.ok,I.os,I.bare,I.base,I.loc,I.cell,I.free,I.freeC,fun p hp=>(qAB.mp hp).elim (fun z=>I.pin p (qB8 _ z)) (h p),I.hok,I.len⟩
theorem Jl {N:List Str} (hN:N.Nodup){i j:Nat}{x:Str} (a:N[i]? = some x) (b:N[j]? = some x):i=j:=by
 obtain⟨h1,e1⟩:=qAj.mp a
 obtain⟨h2,e2⟩:=qAj.mp b
 exact(List.getElem_inj hN).mp (e1.trans e2.symm)
theorem Hl {M:Model}{A:Around}{E:Value→Shared→Prop}{i:Nat}{x:Str}{v:V}{u:Value}{Q:Unit→Shared→Prop} (I:Inv X pins σ H s) (hN:X.N.Nodup) (hi:X.N[i]? = some x) (hx:Loc X.env.scope x) (r:AN v u)
 (h:∀s',Inv X pins (σ.set i (some v)) H s'→(∃a,Heap.SameBut a s.heap s'.heap∧(a=X.env.locals∨X.env.cells.lookup x=some a))→Q Unit.unit s') (hf:X.fn x=true∨X.env.scope.names.lookup x=some .local:=by first|exact .inl rfl|exact .inr rfl|assumption):wpAny M A (storeName X.env x u) Q E s:=by
 obtain⟨m,hn,hl⟩:=id I.loc
 have hcls:(X.env.scope.kind == .class||(X.env.scope.kind == .module&&X.env.locals != X.env.globals))=false:=by rw[I.ok.kind];rfl
 have hiσ:i<σ.length:=by rw[I.len];exact(qAj.mp hi).1
 have cne:=I.cne
 have tracked:∀{a:Addr}{h':Heap},(∃o,s.heap.get? a=some o∧H a=none)→Heap.SameBut a s.heap h'→HOk X.prog X.w H h':=fun {a h'} ha hs b ob e=>by
  obtain⟨_,_,hfree⟩:=ha
  refine(I.hok b ob e).stay (fun c w' hc q=>(hs.2 c ?_).trans q) (fun _ q=>q) fun _ _ q=>q
  rintro rfl
  rcases hc with rfl|hc
  ·rw[hfree] at e;cases e
  ·rw[hfree] at hc;cases hc
 rcases hx with hk|hk
 ·refine wpAny_storeName_local hk hn (fun h' hn' hs=>?_) hcls
  obtain⟨oL,_,_,hoL,_⟩:=id hn
  refine h _ ⟨I.ok,I.os,I.bare,⟨fun b o e n hb hx=>?_,fun b o e n hb hx=>?_,I.base.free,fun b o e hx=>?_,I.base.tups,I.base.frzs,I.base.tbls⟩,⟨_,hn',fun j y v' e1 e2 e3=>?_⟩,fun y c e=>?_,I.free,I.freeC,fun p hp=>?_,tracked ⟨oL,hoL,I.free⟩ hs,by simpa using I.len⟩ ⟨_,hs,.inl rfl⟩
  ·exact(hs.2 b (qAo (qAr (qAh e) I.ok.above))).trans (I.base.keep b o e n hb hx)
  ·obtain⟨sl,e1⟩:=I.base.slot b o e n hb hx
   exact⟨sl,(hs.2 b (qAo (qAr (qAh e) I.ok.above))).trans e1⟩
  ·obtain⟨o',e1⟩:=I.base.there b o e hx
   exact⟨o',(hs.2 b (qAo (qAr (qAh e) I.ok.above))).trans e1⟩
  ·by_cases hj:j=i
   ·subst hj
    rw[hi] at e1;cases e1
    rw[qBh hiσ] at e2
    cases e2
    exact⟨u,r,.inl ⟨hk,by simp⟩⟩
   ·rw[qBE (Ne.symm hj)] at e2
    obtain⟨u',r',q⟩:=hl j y v' e1 e2 e3
    refine⟨u',r',?_⟩
    rcases q with⟨k,e⟩|⟨k,c,e,z⟩
    ·refine .inl ⟨k,?_⟩
     have:y≠x:=fun e=>hj (Jl hN e1 (e ▸ hi))
     simp[this,e]
    ·exact .inr ⟨k,c,e,z.sameBut hs (cne y c e)⟩
  ·obtain⟨w',z⟩:=I.cell y c e
   exact⟨w',z.sameBut hs (cne y c e)⟩
  ·obtain⟨e,n,ne,nf,d⟩:=I.pin p hp
   exact⟨(hs.2 p.1 ne).trans e,n,ne,nf,d⟩
 ·have hfn:X.fn x=true:=by
   rcases hf with z|z
   ·exact z
   ·rw[z] at hk;cases hk
  obtain⟨c,hc⟩:=I.ok.has x (.inl hk)
  obtain⟨w',z⟩:=I.cell x c hc
  refine wpAny_storeName_cell I.ok.kind hk hc z (fun h' hc' hs=>?_)
  obtain⟨oc,hoc,hocd⟩:=id z
  refine h { s with heap:=h' } ⟨I.ok,I.os,I.bare,⟨fun b o e n hb hx=>?_,fun b o e n hb hx=>?_,I.base.free,fun b o e hx=>?_,I.base.tups,I.base.frzs,I.base.tbls⟩,⟨m,hn.sameBut hs (Ne.symm (cne x c hc)),fun j y v' e1 e2 e3=>?_⟩,fun y c' e=>?_,I.free,I.freeC,fun p hp=>?_,tracked ⟨oc,hoc,I.freeC x c hc⟩ hs,by simpa using I.len⟩ ⟨c,hs,.inr hc⟩
  ·exact(hs.2 b (qAo (qAr (qAh e) (I.ok.cab x c hfn hc)))).trans (I.base.keep b o e n hb hx)
  ·obtain⟨sl,e1⟩:=I.base.slot b o e n hb hx
   exact⟨sl,(hs.2 b (qAo (qAr (qAh e) (I.ok.cab x c hfn hc)))).trans e1⟩
  ·obtain⟨o',e1⟩:=I.base.there b o e hx
   exact⟨o',(hs.2 b (qAo (qAr (qAh e) (I.ok.cab x c hfn hc)))).trans e1⟩
  ·by_cases hj:j=i
   ·subst hj
    rw[hi] at e1;cases e1
    rw[qBh hiσ] at e2
    cases e2
    exact⟨u,r,.inr ⟨.inl hk,c,hc,hc'⟩⟩
   ·rw[qBE (Ne.symm hj)] at e2
    obtain⟨u',r',q⟩:=hl j y v' e1 e2 e3
    refine⟨u',r',?_⟩
    rcases q with q|⟨k,c',e,z'⟩
    ·exact .inl q
    ·refine .inr ⟨k,c',e,z'.sameBut hs ?_⟩
     rintro rfl
     exact hj (Jl hN e1 (I.ok.inj _ _ _ e hc ▸ hi))
  ·by_cases hcc:c'=c
   ·subst hcc;exact⟨_,hc'⟩
   ·obtain⟨w2,z2⟩:=I.cell y c' e
    exact⟨w2,z2.sameBut hs hcc⟩
  ·obtain⟨e,n,ne,nf,d⟩:=I.pin p hp
   refine⟨(hs.2 p.1 ?_).trans e,n,ne,nf,d⟩
   intro q
   rw[q,hoc] at e
   have q':oc=p.2:=qAn e
   exact d w' (by rw[←q'];exact hocd)
theorem BN {M:Model}{A:Around}{E:Value→Shared→Prop}{i:Nat}{x:Str}{v:V}{u:Value}{Q:Unit→Shared→Prop} (I:Inv X pins σ H s) (hN:X.N.Nodup) (hi:X.N[i]? = some x) (hx:Loc X.env.scope x) (r:AN v u)
 (h:∀s',Inv X pins (σ.set i (some v)) H s'→Q Unit.unit s') (hf:X.fn x=true∨X.env.scope.names.lookup x=some .local:=by first|exact .inl rfl|exact .inr rfl|assumption):wpAny M A (storeName X.env x u) Q E s :=
 Hl I hN hi hx r (fun s' I' _=>h s' I') hf
theorem Inv.call' {s':Shared}{ch:List Addr} (I:Inv X pins σ H s) (ho:s'.os=s.os) (u:Un (frs X.stack) ch H H' s.heap s'.heap) (hok:HOk X.prog X.w H' s'.heap) (hg:AllBare s'.gens)
 (hch:∀b∈ch,(b∈X.ex∨X.s₀.heap.objs.size≤b)∧b≠X.env.locals∧(∀x c,X.env.cells.lookup x=some c→c≠b)∧∀p∈X.pn++pins,p.1≠b):Inv X pins σ H' s':=by
 obtain⟨h',g',d',t',o'⟩:=s'
 have e:o'=s.os:=ho
 subst e
 exact I.call (g':=g') (t':=t') (d':=d') u hok hg hch
end
abbrev XK:=Value→Option Addr→Hp→Prop
abbrev St:=List (Option V)
abbrev VK:=V→Hp→Prop
abbrev TE:=St→Hp→VK→Prop
abbrev TT:=St→Hp→(Bool→Hp→Prop)→Prop
abbrev TA:=St→Hp→(List V→Hp→Prop)→Prop
structure GI where
 nx:St→Hp→Prop
 rt:VK
 bk:St→Hp→Prop:=fun _ _=>False
 ct:St→Hp→Prop:=fun _ _=>False
abbrev TS:=GI→St→Hp→Prop
def EP (X:Cx)(pins:List (Addr×Obj))(σ:St)(Q:VK)(u:Value)(s':Shared):Prop:=∃v H',Inv X pins σ H' s'∧AN v u∧Q v H'
def TP (X:Cx)(pins:List (Addr×Obj))(σ:St)(Q:Bool→Hp→Prop)(b:Bool)(s':Shared):Prop:=∃H',Inv X pins σ H' s'∧Q b H'
def AP (X:Cx)(pins:List (Addr×Obj))(σ:St)(Q:List V→Hp→Prop)(us:List Value)(s':Shared):Prop:=∃vs H',Inv X pins σ H' s'∧AA vs us∧Q vs H'
def SP (X:Cx)(pins:List (Addr×Obj))(D:GI)(f:Flow)(s':Shared):Prop :=
 match f with
 |.next=>∃σ' H',Inv X pins σ' H' s'∧D.nx σ' H'
 |.brk=>∃σ' H',Inv X pins σ' H' s'∧D.bk σ' H'
 |.cont=>∃σ' H',Inv X pins σ' H' s'∧D.ct σ' H'
 |.ret u=>∃v σ' H',Inv X pins σ' H' s'∧AN v u∧D.rt v H'
def PE (X:Cx)(e:Expr)(t:TE):Prop :=
 ∀(pins:List (Addr×Obj))(s:Shared)(σ:St)(H:Hp)(Q:VK),Inv X pins σ H s→t σ H Q→wpAny (model X.prog X.w) X.A (eval e X.env) (EP X pins σ Q) X.xe s
def PT (X:Cx)(e:Expr)(t:TT):Prop :=
 ∀(pins:List (Addr×Obj))(s:Shared)(σ:St)(H:Hp)(Q:Bool→Hp→Prop),Inv X pins σ H s→t σ H Q→wpAny (model X.prog X.w) X.A (isTrue e X.env (eval e X.env)) (TP X pins σ Q) X.xe s
def PW (X:Cx)(e:Expr)(t:TT):Prop :=
 ∀(whole:Sem Value)(pins:List (Addr×Obj))(s:Shared)(σ:St)(H:Hp)(Q:Bool→Hp→Prop),Inv X pins σ H s→t σ H Q→wpAny (model X.prog X.w) X.A (isTrue e X.env whole) (TP X pins σ Q) X.xe s
theorem PW.pt {X:Cx}{e:Expr}{t:TT} (h:PW X e t):PT X e t:=h _
def PA (X:Cx)(es:List Expr)(t:TA):Prop :=
 ∀(pos:Pos)(pins:List (Addr×Obj))(s:Shared)(σ:St)(H:Hp)(Q:List V→Hp→Prop),Inv X pins σ H s→t σ H Q→wpAny (model X.prog X.w) X.A (spliced (backTo pos (starEach es X.env))) (AP X pins σ Q) X.xe s
def PS (X:Cx)(st:Stmt)(t:TS):Prop :=
 ∀(pins:List (Addr×Obj))(s:Shared)(σ:St)(H:Hp)(D:GI),Inv X pins σ H s→t D σ H→wpAny (model X.prog X.w) X.A (exec st X.env) (SP X pins D) X.xe s
def PSs (X:Cx)(st:List Stmt)(t:TS):Prop :=
 ∀(pins:List (Addr×Obj))(s:Shared)(σ:St)(H:Hp)(D:GI),Inv X pins σ H s→t D σ H→wpAny (model X.prog X.w) X.A (execs st X.env) (SP X pins D) X.xe s
theorem thn {α:Type}{t:Sem α}{Q Q':α→Shared→Prop}{M:Model}{A:Around}{E:Value→Shared→Prop}{s:Shared} (h:wpAny M A t Q E s) (hQ:∀a s,Q a s→Q' a s):wpAny M A t Q' E s:=wpAny_mono h hQ fun _ _ x=>x
end L2
namespace L2
open PySem PySem.Spec PyProof.Rows
section
variable {X:Cx}
theorem bin {a b:Expr}{ta tb:TE} (ha:PE X a ta) (hb:PE X b tb){pins:List (Addr×Obj)}{s:Shared}{σ:St}{H:Hp}{R:V→V→Hp→Prop} (I:Inv X pins σ H s) (h:ta σ H fun x H1=>tb σ H1 fun y H2=>R x y H2)
 {α:Type}{Q:α→Shared→Prop}{f:Value→Value→Sem α}
 (hf:∀v u s2 x y H2,Inv X pins σ H2 s2→AN x v→AN y u→R x y H2→wpAny (model X.prog X.w) X.A (f v u) Q X.xe s2) :
 wpAny (model X.prog X.w) X.A (eval a X.env) (fun v s₁=>wpAny (model X.prog X.w) X.A (eval b X.env) (fun u s₂=>wpAny (model X.prog X.w) X.A (f v u) Q X.xe s₂) X.xe s₁) X.xe s:=by
 refine thn (ha pins s σ H _ I h) fun v s1 hh=>?_
 obtain⟨x,H1,I1,r1,q1⟩:=hh
 refine thn (hb pins s1 σ H1 _ I1 q1) fun u s2 hh=>?_
 obtain⟨y,H2,I2,r2,q2⟩:=hh
 exact hf v u s2 x y H2 I2 r1 r2 q2
def Gw (i:Nat):TE:=fun σ H Q=>∃v,σ[i]? = some (some v)∧Q v H
def tC (v:V):TE:=fun _ H Q=>Q v H
theorem C2 {i:Nat}{x:Str}{pos:Pos} (hN:X.N[i]? = some x) (hv:Vis X.env.scope x) (hd:(x==("__debug__":Str))=false:=by decide) (hcd:(x==("__classdict__":Str))=false:=by decide):PE X (.Name x pos) (Gw i):=by
 intro pins s σ H Q I h
 obtain⟨v,e,h⟩:=h
 obtain⟨m,hn,hl⟩:=I.loc
 obtain⟨u,r,l⟩:=hl i x v hN e hv
 have fin:EP X pins σ Q u s:=⟨v,H,I,r,h⟩
 rcases l with⟨hk,hm⟩|⟨hk,c,hc,hcell⟩
 ·exact wpAny_Name (wpAny_loadName_local I.ok.kind hk hn hm fin) hd
 ·rcases hk with hk|hk
  ·exact wpAny_Name (wpAny_loadName_cell I.ok.kind hk hc hcell fin) hd
  ·exact wpAny_Name (wpAny_loadName_free I.ok.kind hk hc hcell fin hcd) hd
theorem Rn {i j pos}:PE X (.Constant (.int i) j pos) (tC (.int i)):=fun _ _ _ H _ I h=>wpAny_Constant_int ⟨.int i,H,I.tok _,⟨_,rfl⟩,h⟩
theorem Jy {b j pos}:PE X (.Constant (.bool b) j pos) (tC (.bl b)):=fun _ _ _ H _ I h=>Constant_bool ⟨.bl b,H,I,rfl,h⟩
theorem RI {j pos}:PE X (.Constant .none j pos) (tC .non):=fun _ _ _ H _ I h=>Constant_none ⟨.non,H,I,rfl,h⟩
theorem RP {x j pos}:PE X (.Constant (.str x) j pos) (tC (.str x)):=fun _ _ _ H _ I h=>Calls.Constant_str ⟨.str x,H,I.tok _,⟨_,rfl⟩,h⟩
def Gl (X:Cx)(x:Str):Prop:=X.env.kindOf x=some .globalImplicit
theorem Bv {E:Value→Shared→Prop}{pins:List (Addr×Obj)}{s:Shared}{σ:St}{H:Hp}{x:Str}{u:Value}{pos:Pos}{Q:Value→Shared→Prop} (I:Inv X pins σ H s) (hg:Gl X x) (hm:X.mg x=some u) (h:Q u s)
 (hd:(x==("__debug__":Str))=false:=by decide):wpAny (model X.prog X.w) X.A (eval (.Name x pos) X.env) Q E s :=
 Calls.Name_function_global I.ok.kind hg (Calls.loadGlobal_global (by rw[I.ok.glob];exact I.mod.glob.keeps I.bk) hm h) hd
theorem B6 {E:Value→Shared→Prop}{pins:List (Addr×Obj)}{s:Shared}{σ:St}{H:Hp}{x:Str}{u:Value}{pos:Pos}{Q:Value→Shared→Prop} (I:Inv X pins σ H s) (hg:Gl X x) (hm:X.mg x=none) (hv:bootBuiltins x=some u) (h:Q u s)
 (hn:x≠"__name__":=by decide) (hd:(x==("__debug__":Str))=false:=by decide):wpAny (model X.prog X.w) X.A (eval (.Name x pos) X.env) Q E s:=by
 obtain⟨mb,h1,h2⟩:=I.mod.blt
 exact Calls.Name_function_global I.ok.kind hg (Calls.loadGlobal_builtin (by rw[I.ok.glob];exact I.mod.glob.keeps I.bk) hm (by rw[I.ok.blt];exact h1.keeps I.bk) ((h2 x hn).trans hv) h) hd
theorem HQ {x:Str}{v:V}{u:Value}{pos:Pos} (hg:Gl X x) (hm:X.mg x=some u) (r:AN v u) (hd:(x==("__debug__":Str))=false:=by decide):PE X (.Name x pos) (tC v) :=
 fun _ _ _ H _ I h=>Bv I hg hm ⟨v,H,I,r,h⟩ hd
theorem Ir {x:Str}{v:V}{u:Value}{pos:Pos} (hg:Gl X x) (hm:X.mg x=none) (hv:bootBuiltins x=some u) (r:AN v u) (hn:x≠"__name__":=by decide) (hd:(x==("__debug__":Str))=false:=by decide):PE X (.Name x pos) (tC v) :=
 fun _ _ _ H _ I h=>B6 I hg hm hv ⟨v,H,I,r,h⟩ hn hd
def t2I (ta tb:TE)(k:Int→Int→Hp→Prop):St→Hp→Prop:=fun σ H=>ta σ H fun x H1=>tb σ H1 fun y H2=>∃i j,x=.int i∧y=.int j∧k i j H2
def Yu (ta tb:TE):TE:=fun σ H Q=>t2I ta tb (fun i j H2=>Q (.int (i+j)) H2) σ H
def YY (ta tb:TE):TE:=fun σ H Q=>t2I ta tb (fun i j H2=>Q (.int (i-j)) H2) σ H
def Y4 (ta tb:TE):TE:=fun σ H Q=>t2I ta tb (fun i j H2=>(-(2^64)<i∧i<2^64)∧Q (.int (i*j)) H2) σ H
variable {a b:Expr}{ta tb:TE}{pos:Pos}
theorem Xx (ha:PE X a ta)(hb:PE X b tb):PE X (.BinOp a .Add b pos) (Yu ta tb):=by
 intro pins s σ H Q I h
 refine wpAny_BinOp (bin ha hb I h fun v u s2 x y H2 I2 rx ry q=>?_)
 obtain⟨i,j,rfl,rfl,q⟩:=q
 obtain⟨t,rfl⟩:=rx
 obtain⟨t',rfl⟩:=ry
 exact add_int ⟨.int _,H2,I2.tok _,⟨_,rfl⟩,q⟩
theorem Wi (ha:PE X a ta)(hb:PE X b tb):PE X (.BinOp a .Sub b pos) (YY ta tb):=by
 intro pins s σ H Q I h
 refine wpAny_BinOp (bin ha hb I h fun v u s2 x y H2 I2 rx ry q=>?_)
 obtain⟨i,j,rfl,rfl,q⟩:=q
 obtain⟨t,rfl⟩:=rx
 obtain⟨t',rfl⟩:=ry
 exact sub_int ⟨.int _,H2,I2.tok _,⟨_,rfl⟩,q⟩
theorem Xi (ha:PE X a ta)(hb:PE X b tb):PE X (.BinOp a .Mult b pos) (Y4 ta tb):=by
 intro pins s σ H Q I h
 refine wpAny_BinOp (bin ha hb I h fun v u s2 x y H2 I2 rx ry q=>?_)
 obtain⟨i,j,rfl,rfl,⟨q1,q2⟩,q⟩:=q
 obtain⟨t,rfl⟩:=rx
 obtain⟨t',rfl⟩:=ry
 exact mul_int ⟨.int _,H2,I2.tok _,⟨_,rfl⟩,q⟩ (.of_left (intBits_le_64 q1 q2))
def PC (X:Cx)(op:CmpOp)(a b:Expr)(t:TE):Prop :=
 ∀(pins:List (Addr×Obj))(s:Shared)(σ:St)(H:Hp)(Q:VK),Inv X pins σ H s→t σ H Q →
  wpAny (model X.prog X.w) X.A (eval a X.env) (fun v s₁=>wpAny (model X.prog X.w) X.A (eval b X.env) (fun u s₂=>wpAny (model X.prog X.w) X.A (compareOp op v u) (EP X pins σ Q) X.xe s₂) X.xe s₁) X.xe s
theorem IV (b:Expr){op:CmpOp} (h:op≠.In) (h2:op≠.NotIn):behindInMarks op b=false:=by
 have e1:(op==CmpOp.In)=false:=by cases op<;>first|rfl|exact absurd rfl h
 have e2:(op==CmpOp.NotIn)=false:=by cases op<;>first|rfl|exact absurd rfl h2
 cases b<;>simp[behindInMarks,e1,e2]
def Pp (p:Int→Int→Bool)(ta tb:TE):TE:=fun σ H Q=>t2I ta tb (fun i j H2=>Q (.bl (p i j)) H2) σ H
abbrev tLt:TE→TE→TE:=Pp fun i j=>decide (i<j)
abbrev tLe:TE→TE→TE:=Pp fun i j=>decide (i≤j)
abbrev tGt:TE→TE→TE:=Pp fun i j=>decide (j<i)
abbrev tGe:TE→TE→TE:=Pp fun i j=>decide (j≤i)
abbrev Zi:TE→TE→TE:=Pp fun i j=>decide (i=j)
abbrev Yd:TE→TE→TE:=Pp fun i j=>!decide (i=j)
theorem E6 {op:CmpOp}{p:Int→Int→Bool} (ha:PE X a ta) (hb:PE X b tb)
 (rule:∀(i j:Int)(t u:Tok)(Q:Value→Shared→Prop)(s:Shared),Q (.bool (p i j)) s→wpAny (model X.prog X.w) X.A (compareOp op (.int i t) (.int j u)) Q X.xe s):PC X op a b (Pp p ta tb):=by
 intro pins s σ H Q I h
 refine bin ha hb I h fun v u s2 x y H2 I2 rx ry q=>?_
 obtain⟨i,j,rfl,rfl,q⟩:=q
 obtain⟨t,rfl⟩:=rx
 obtain⟨t',rfl⟩:=ry
 exact rule i j t t' _ s2 ⟨.bl _,H2,I2,rfl,q⟩
theorem Yw (ha:PE X a ta)(hb:PE X b tb):PC X .Lt a b (tLt ta tb):=E6 ha hb fun _ _ _ _ _ _ h=>lt_int h
theorem YR (ha:PE X a ta)(hb:PE X b tb):PC X .LtE a b (tLe ta tb):=E6 ha hb fun _ _ _ _ _ _ h=>le_int h
theorem Zq (ha:PE X a ta)(hb:PE X b tb):PC X .Gt a b (tGt ta tb):=E6 ha hb fun _ _ _ _ _ _ h=>gt_int h
theorem X6 (ha:PE X a ta)(hb:PE X b tb):PC X .GtE a b (tGe ta tb):=E6 ha hb fun _ _ _ _ _ _ h=>ge_int h
theorem WJ (ha:PE X a ta)(hb:PE X b tb):PC X .Eq a b (Zi ta tb):=E6 ha hb fun _ _ _ _ _ _ h=>eq_int (by rw[qCG];exact h)
theorem XB (ha:PE X a ta)(hb:PE X b tb):PC X .NotEq a b (Yd ta tb):=E6 ha hb fun _ _ _ _ _ _ h=>ne_int (by rw[bne,qCG];exact h)
def Zg (ta:TE):TE:=fun σ H Q=>ta σ H fun x H1=>Q (.bl (decide (x=.non))) H1
def UE (ta:TE):TE:=fun σ H Q=>ta σ H fun x H1=>Q (.bl (!decide (x=.non))) H1
theorem AN.none_iff {x:V}{v:Value} (r:AN x v):(v==Value.none)=decide (x=.non):=by
 cases x with
 |non=>cases r;rfl
 |bl _=>cases r;rfl
 |int _=>obtain⟨t,rfl⟩:=r;rfl
 |str _=>obtain⟨t,rfl⟩:=r;rfl
 |byt _=>obtain⟨t,rfl⟩:=r;rfl
 |flt _=>obtain⟨t,rfl⟩:=r;rfl
 |ref _=>cases r;rfl
 |ty _=>cases r;rfl
theorem XM {j pos'} (ha:PE X a ta):PC X .Is a (.Constant .none j pos') (Zg ta):=by
 intro pins s σ H Q I h
 refine thn (ha pins s σ H _ I h) fun v s1 hh=>?_
 obtain⟨x,H1,I1,r1,q1⟩:=hh
 exact Constant_none (is_none_gen ⟨.bl _,H1,I1,by rw[r1.none_iff];rfl,q1⟩)
theorem U0 {j pos'} (ha:PE X a ta):PC X .IsNot a (.Constant .none j pos') (UE ta):=by
 intro pins s σ H Q I h
 refine thn (ha pins s σ H _ I h) fun v s1 hh=>?_
 obtain⟨x,H1,I1,r1,q1⟩:=hh
 exact Constant_none (isnot_none_gen ⟨.bl _,H1,I1,by rw[r1.none_iff];rfl,q1⟩)
def tB (t:TE):TT:=fun σ H Q=>t σ H fun x H1=>∃c,x=.bl c∧Q c H1
theorem WA {op:CmpOp}{t:TE} (h:PC X op a b t) (h1:behindInMarks op b=false:=by first|exact IV _ ∅ ∅|rfl):PE X (.Compare a [op] [b] pos) t:=fun pins s σ H Q I hw=>wpAny_Compare1 (h pins s σ H Q I hw) h1
theorem WZ {op:CmpOp}{t:TE} (h:PC X op a b t) (h1:behindInMarks op b=false:=by first|exact IV _ ∅ ∅|rfl):PT X (.Compare a [op] [b] pos) (tB t):=by
 intro pins s σ H Q I hw
 refine wpAny_isTrue_Compare1 (thn (h pins s σ H _ I hw) fun v s1 h1=>thn h1 fun u s2 h2=>thn h2 fun c s3 ⟨x,H1,I1,r1,q1⟩=>?_) h1
 obtain⟨d,rfl,q⟩:=q1
 cases r1
 exact wpAny_truthy_bool ⟨H1,I1,q⟩
theorem RU {e:Expr}{t:TE} (h:PE X e t) (he:∀whole,isTrue e X.env whole=(do let v ←whole;standAt e.pos;holding [v] (truthy v)):=by intro _;rfl):PT X e (tB t):=by
 intro pins s σ H Q I hw
 refine isTrue_plain (thn (h pins s σ H _ I hw) fun v s1 ⟨x,H1,I1,r1,q1⟩=>?_) (he _)
 obtain⟨d,rfl,q⟩:=q1
 cases r1
 exact wpAny_truthy_bool ⟨H1,I1,q⟩
variable {tA tB':TT}{Cp:List Expr}
def Yr (t u:TT):TT:=fun σ H Q=>t σ H fun c H1=>if c=true then u σ H1 Q else Q false H1
def tOr (t u:TT):TT:=fun σ H Q=>t σ H fun c H1=>if c=true then Q true H1 else u σ H1 Q
def YS (t:TT):TT:=fun σ H Q=>t σ H fun c H1=>Q (!c) H1
theorem PD (ha:PT X a tA):PW X (.BoolOp .And [a] pos) tA:=by
 intro wh pins s σ H Q I h
 refine isTrue_and (thn (ha pins s σ H Q I h) fun c s1 e=>?_)
 cases c with
 |true=>exact isTrue_and_nil e
 |false=>exact e
theorem Sx (ha:PT X a tA):PW X (.BoolOp .Or [a] pos) tA:=by
 intro wh pins s σ H Q I h
 refine isTrue_or (thn (ha pins s σ H Q I h) fun c s1 e=>?_)
 cases c with
 |false=>exact isTrue_or_nil e
 |true=>exact e
theorem Ro (ha:PT X a tA)(hb:PW X (.BoolOp .And (b::Cp) pos) tB'):PW X (.BoolOp .And (a::b::Cp) pos) (Yr tA tB'):=by
 intro wh pins s σ H Q I h
 refine isTrue_and (thn (ha pins s σ H _ I h) fun c s1 hh=>?_)
 obtain⟨H1,I1,q1⟩:=hh
 cases c with
 |true=>exact hb wh pins s1 σ H1 Q I1 q1
 |false=>exact⟨H1,I1,q1⟩
theorem V9 (ha:PT X a tA)(hb:PW X (.BoolOp .Or (b::Cp) pos) tB'):PW X (.BoolOp .Or (a::b::Cp) pos) (tOr tA tB'):=by
 intro wh pins s σ H Q I h
 refine isTrue_or (thn (ha pins s σ H _ I h) fun c s1 hh=>?_)
 obtain⟨H1,I1,q1⟩:=hh
 cases c with
 |true=>exact⟨H1,I1,q1⟩
 |false=>exact hb wh pins s1 σ H1 Q I1 q1
theorem Sm (ha:PT X a tA):PT X (.UnaryOp .Not a pos) (YS tA):=by
 intro pins s σ H Q I h
 exact isTrue_not (ha pins s σ H (fun c H1=>Q (!c) H1) I h)
def Vf (ta tb:TE):TE:=fun σ H Q=>ta σ H fun x H1=>∃c,x=.bl c∧if c=true then tb σ H1 Q else Q (.bl false) H1
def YE (ta tb:TE):TE:=fun σ H Q=>ta σ H fun x H1=>∃c,x=.bl c∧if c=true then Q (.bl true) H1 else tb σ H1 Q
def V8 (ta:TE):TE:=fun σ H Q=>ta σ H fun x H1=>∃c,x=.bl c∧Q (.bl (!c)) H1
theorem QY {op}{t:TE} (h:PE X a t):PE X (.BoolOp op [a] pos) t:=fun pins s σ H Q I hw=>BoolOp_one (h pins s σ H Q I hw)
theorem R7 (ha:PE X a ta)(hb:PE X (.BoolOp .And (b::Cp) pos) tb):PE X (.BoolOp .And (a::b::Cp) pos) (Vf ta tb):=by
 intro pins s σ H Q I h
 refine BoolOp_and (thn (ha pins s σ H _ I h) fun v s1 hh=>?_)
 obtain⟨x,H1,I1,r1,q1⟩:=hh
 obtain⟨c,rfl,q1⟩:=q1
 cases r1
 refine wpAny_truthy_bool ?_
 cases c with
 |true=>exact hb pins s1 σ H1 Q I1 q1
 |false=>exact⟨.bl false,H1,I1,rfl,q1⟩
theorem VN (ha:PE X a ta)(hb:PE X (.BoolOp .Or (b::Cp) pos) tb):PE X (.BoolOp .Or (a::b::Cp) pos) (YE ta tb):=by
 intro pins s σ H Q I h
 refine BoolOp_or (thn (ha pins s σ H _ I h) fun v s1 hh=>?_)
 obtain⟨x,H1,I1,r1,q1⟩:=hh
 obtain⟨c,rfl,q1⟩:=q1
 cases r1
 refine wpAny_truthy_bool ?_
 cases c with
 |false=>exact hb pins s1 σ H1 Q I1 q1
 |true=>exact⟨.bl true,H1,I1,rfl,q1⟩
theorem Q4 (ha:PE X a ta):PE X (.UnaryOp .Not a pos) (V8 ta):=by
 intro pins s σ H Q I h
 refine UnaryOp_ (thn (ha pins s σ H _ I h) fun v s1 hh=>?_)
 obtain⟨x,H1,I1,r1,q1⟩:=hh
 obtain⟨c,rfl,q1⟩:=q1
 cases r1
 exact not_of (wpAny_truthy_bool ⟨.bl (!c),H1,I1,rfl,q1⟩)
def tIf (t:TT)(ta tb:TE):TE:=fun σ H Q=>t σ H fun c H1=>if c=true then ta σ H1 Q else tb σ H1 Q
theorem M5 {c:Expr} (hc:PT X c tA) (ha:PE X a ta) (hb:PE X b tb):PE X (.IfExp c a b pos) (tIf tA ta tb):=by
 intro pins s σ H Q I h
 refine wpAny_IfExp (thn (hc pins s σ H _ I h) fun d s1 hh=>?_)
 obtain⟨H1,I1,q1⟩:=hh
 cases d with
 |true=>exact ha pins s1 σ H1 Q I1 q1
 |false=>exact hb pins s1 σ H1 Q I1 q1
end
end L2
namespace L2
open PySem PySem.Spec PyProof.Rows
def SqL (K:PySem.W.Frag)(H:Hp)(a:Addr)(xs:List V):Prop :=
 Rd H a (.lst xs) ∨
  ∃(o:Obj)(its:Array Value)(n:Nat),K.lookup a=some o∧o.cls=.type "list"∧o.dict=none∧o.data=.seq its n∧its.size≤sizeLine∧AA xs its.toList
def SqT (K:PySem.W.Frag)(H:Hp)(a:Addr)(xs:List V):Prop :=
 Rd H a (.tup xs) ∨
  ∃(o:Obj)(its:Array Value)(n:Nat),K.lookup a=some o∧o.cls=.type "tuple"∧o.data=.seq its n∧its.size≤sizeLine∧AA xs its.toList
def YC:Value→Option V
 |.none=>some .non
 |.bool b=>some (.bl b)
 |.int i _=>some (.int i)
 |.str x _=>some (.str x)
 |.bytes b _=>some (.byt b)
 |.float b _=>some (.flt b)
 |.ref a=>some (.ref a)
 |.type n=>some (.ty n)
 |_=>none
theorem AN.abs {x:V}{u:Value} (r:AN x u):YC u=some x:=by
 cases x with
 |non=>cases r;rfl
 |bl _=>cases r;rfl
 |int _=>obtain⟨t,rfl⟩:=r;rfl
 |str _=>obtain⟨t,rfl⟩:=r;rfl
 |byt _=>obtain⟨t,rfl⟩:=r;rfl
 |flt _=>obtain⟨t,rfl⟩:=r;rfl
 |ref _=>cases r;rfl
 |ty _=>cases r;rfl
theorem AN.inj {x y:V}{u:Value} (r:AN x u) (q:AN y u):x=y:=qAn (r.abs.symm.trans q.abs)
theorem AA.inj:∀{xs ys:List V}{us:List Value},AA xs us→AA ys us→xs=ys
 |_,_,_,.nil,.nil=>rfl
 |_,_,_,.cons r t,.cons r' t'=>by rw[r.inj r',AA.inj t t']
section
variable {X:Cx}{pins:List (Addr×Obj)}{σ:St}{H:Hp}{s:Shared}{a:Addr}{xs ys:List V}
theorem SqL.of {K:PySem.W.Frag} (h:H a=some (.lst xs)):SqL K H a xs:=.inl (.inl h)
theorem SqT.of {K:PySem.W.Frag} (h:H a=some (.tup xs)):SqT K H a xs:=.inl (.inl h)
theorem Inv.list (I:Inv X pins σ H s)(h:SqL X.K H a xs):∃its:List Value,AA xs its∧PlainL s.heap a its.toArray∧xs.length≤sizeLine:=by
 rcases h with h|⟨o,its,n,hk,hc,hd,hs,hz,r⟩
 ·obtain⟨z,its,n,r,e⟩:=h.ok I.hok
  exact⟨its,r,⟨_,n,e,rfl,rfl,rfl⟩,z⟩
 ·refine⟨its.toList,r,⟨o,n,I.kIn a o hk,hc,hd,by simpa using hs⟩,?_⟩
  have e:=r.length
  simp only[Array.length_toList] at e
  omega
theorem Inv.tuple (I:Inv X pins σ H s)(h:SqT X.K H a xs):∃its:List Value,AA xs its∧IsTup s.heap a its.toArray∧xs.length≤sizeLine:=by
 rcases h with h|⟨o,its,n,hk,hc,hs,hz,r⟩
 ·obtain⟨z,its,r,p⟩:=h.ok I.hok
  exact⟨its,r,p,z⟩
 ·refine⟨its.toList,r,⟨o,I.kIn a o hk,hc,n,by simpa using hs⟩,?_⟩
  have e:=r.length
  simp only[Array.length_toList] at e
  omega
theorem Inv.list_inj (I:Inv X pins σ H s)(h:SqL X.K H a xs)(h':SqL X.K H a ys):xs=ys:=by
 obtain⟨its,r,⟨o,n,e,_,_,d⟩,_⟩:=I.list h
 obtain⟨its',r',⟨o',n',e',_,_,d'⟩,_⟩:=I.list h'
 rw[e] at e';cases e'
 rw[d] at d'
 injection d' with d1 _
 have:its=its':=by simpa using congrArg Array.toList d1
 subst this
 exact r.inj r'
theorem Inv.tuple_inj (I:Inv X pins σ H s)(h:SqT X.K H a xs)(h':SqT X.K H a ys):xs=ys:=by
 obtain⟨its,r,⟨o,e,_,n,d⟩,_⟩:=I.tuple h
 obtain⟨its',r',⟨o',e',_,n',d'⟩,_⟩:=I.tuple h'
 rw[e] at e';cases e'
 rw[d] at d'
 injection d' with d1 _
 have:its=its':=by simpa using congrArg Array.toList d1
 subst this
 exact r.inj r'
end
abbrev Cx.wish (X:Cx)(E:Value→Shared→Prop):Cx:={ X with xe:=E }
abbrev Cx.nox (X:Cx):Cx:=X.wish fun _ _=>False
theorem Cx.Ok.wish {X:Cx} (ok:X.Ok) (E:Value→Shared→Prop):(X.wish E).Ok :=
 ⟨ok.mod,ok.kind,ok.glob,ok.blt,ok.above,ok.inj,ok.has,ok.cab,ok.hd,ok.frames,ok.stk,ok.exf,ok.bs,ok.bsz,ok.noex,ok.exfs,ok.funs,ok.frf,ok.tb⟩
theorem Cx.Ok.unwish {X:Cx}{E:Value→Shared→Prop} (ok:(X.wish E).Ok):X.Ok :=
 ⟨ok.mod,ok.kind,ok.glob,ok.blt,ok.above,ok.inj,ok.has,ok.cab,ok.hd,ok.frames,ok.stk,ok.exf,ok.bs,ok.bsz,ok.noex,ok.exfs,ok.funs,ok.frf,ok.tb⟩
section
variable {X:Cx}{pins:List (Addr×Obj)}{σ:St}{H:Hp}{s:Shared}{E:Value→Shared→Prop}
theorem Inv.wish (I:Inv X pins σ H s)(E:Value→Shared→Prop):Inv (X.wish E) pins σ H s:=⟨I.ok.wish E,I.os,I.bare,I.base,I.loc,I.cell,I.free,I.freeC,I.pin,I.hok,I.len⟩
theorem Inv.unwish (I:Inv (X.wish E) pins σ H s):Inv X pins σ H s:=⟨I.ok.unwish,I.os,I.bare,I.base,I.loc,I.cell,I.free,I.freeC,I.pin,I.hok,I.len⟩
theorem SP.unwish {D:GI}{f:Flow}{s':Shared} (h:SP (X.wish E) pins D f s'):SP X pins D f s':=by
 cases f with
 |next=>obtain⟨σ',H',I,q⟩:=h;exact⟨σ',H',I.unwish,q⟩
 |brk=>obtain⟨σ',H',I,q⟩:=h;exact⟨σ',H',I.unwish,q⟩
 |cont=>obtain⟨σ',H',I,q⟩:=h;exact⟨σ',H',I.unwish,q⟩
 |ret u=>obtain⟨v,σ',H',I,r,q⟩:=h;exact⟨v,σ',H',I.unwish,r,q⟩
theorem PE.nox {e:Expr}{t:TE} (h:PE X.nox e t):PE X e t:=fun pins s σ H Q I hw =>
 wpAny_mono (h pins s σ H Q (I.wish _) hw) (fun _ _ ⟨v,H',I',r,q⟩=>⟨v,H',I'.unwish,r,q⟩) fun _ _ z=>False.elim z
theorem PT.nox {e:Expr}{t:TT} (h:PT X.nox e t):PT X e t:=fun pins s σ H Q I hw =>
 wpAny_mono (h pins s σ H Q (I.wish _) hw) (fun _ _ ⟨H',I',q⟩=>⟨H',I'.unwish,q⟩) fun _ _ z=>False.elim z
theorem PSs.nox {st:List Stmt}{t:TS} (h:PSs X.nox st t):PSs X st t:=fun pins s σ H D I hw =>
 wpAny_mono (h pins s σ H D (I.wish _) hw) (fun _ _ q=>q.unwish) fun _ _ z=>False.elim z
end
section
variable {X:Cx}{st:Stmt}{Cp:List Stmt}{t u:TS}{e:Expr}{te:TE}{pos:Pos}
def OW:TS:=fun D σ H=>D.nx σ H
def YU (t u:TS):TS:=fun D σ H=>t { D with nx:=u D } σ H
theorem LX:PSs X [] OW:=fun _ _ σ H _ I h=>wpAny_execs_nil ⟨σ,H,I,h⟩
theorem BS (h1:PS X st t)(h2:PSs X Cp u):PSs X (st::Cp) (YU t u):=by
 intro pins s σ H D I h
 refine wpAny_execs_cons (thn (h1 pins s σ H { D with nx:=u D } I h) fun f s1 q=>?_)
 cases f with
 |next =>
  obtain⟨σ',H',I',q⟩:=q
  exact h2 pins s1 σ' H' D I' q
 |ret v=>exact q
 |brk=>exact q
 |cont=>exact q
theorem FY (h1:PS X st t):PSs X [st] t:=by
 intro pins s σ H D I h
 refine wpAny_execs_cons (thn (h1 pins s σ H D I h) fun f s1 q=>?_)
 cases f with
 |next=>exact wpAny_execs_nil q
 |ret v=>exact q
 |brk=>exact q
 |cont=>exact q
def Sh:TS:=fun D σ H=>D.bk σ H
def V1:TS:=fun D σ H=>D.ct σ H
theorem OM:PS X (.Pass pos) OW:=fun _ _ σ H _ I h=>wpAny_Pass ⟨σ,H,I,h⟩
theorem Mf:PS X (.Break pos) Sh:=fun _ _ σ H _ I h=>wpAny_Break ⟨σ,H,I,h⟩
theorem Ig:PS X (.Continue pos) V1:=fun _ _ σ H _ I h=>wpAny_Continue ⟨σ,H,I,h⟩
theorem Inv.quiet {pins:List (Addr×Obj)}{σ:St}{H:Hp}{s:Shared} (I:Inv X pins σ H s):interactive X.env=false:=by simp[interactive,I.ok.kind]
theorem Xj {x j pos pos'}:PS X (.Expr (.Constant (.str x) j pos) pos') OW:=fun _ s σ H _ I h=>wpAny_Expr (Calls.Constant_str (show SP X _ _ .next { s with toks:=s.toks+1 } from ⟨σ,H,I.tok _,h⟩)) I.quiet
def Nt (te:TE):TS:=fun D σ H=>te σ H fun _ H1=>D.nx σ H1
theorem H0 (he:PE X e te)(hs:swapsWith e none pos.line X.env=pure false:=by rfl):PS X (.Expr e pos) (Nt te):=by
 intro pins s σ H D I h
 exact wpAny_Expr_any (thn (he pins s σ H _ I h) fun v s1 ⟨x,H1,I1,r1,q1⟩=>⟨σ,H1,I1,q1⟩) I.quiet hs
def Zm (te:TE):TS:=fun D σ H=>te σ H D.rt
theorem NF (he:PE X e te):PS X (.Return (some e) pos) (Zm te):=by
 intro pins s σ H D I h
 exact wpAny_Return_some (thn (he pins s σ H _ I h) fun v s1 ⟨x,H1,I1,r1,q1⟩=>⟨x,σ,H1,I1,r1,q1⟩)
def U5:TS:=fun D _ H=>D.rt .non H
theorem OO:PS X (.Return none pos) U5:=fun _ _ σ H _ I h=>wpAny_Return_none ⟨.non,σ,H,I,rfl,h⟩
def YK (c:TT)(t u:TS):TS:=fun D σ H=>c σ H fun b H1=>if b=true then t D σ H1 else u D σ H1
theorem RM {c:Expr}{a b:List Stmt}{tc:TT} (hc:PT X c tc) (ha:PSs X a t) (hb:PSs X b u):PS X (.If c a b pos) (YK tc t u):=by
 intro pins s σ H D I h
 refine wpAny_If (thn (hc pins s σ H _ I h) fun d s1 hh=>?_)
 obtain⟨H1,I1,q1⟩:=hh
 cases d with
 |true=>exact ha pins s1 σ H1 D I1 q1
 |false=>exact hb pins s1 σ H1 D I1 q1
def Od:TS:=fun _ _ _=>False
theorem Nm:PS X st Od:=fun _ _ _ _ _ _ h=>h.elim
theorem LN {sts:List Stmt}:PSs X sts Od:=fun _ _ _ _ _ _ h=>h.elim
end
abbrev TG:=V→St→Hp→(St→Hp→Prop)→Prop
abbrev TGs:=List V→St→Hp→(St→Hp→Prop)→Prop
def PG (X:Cx)(target:Expr)(t:TG):Prop :=
 ∀(pins:List (Addr×Obj))(s:Shared)(σ:St)(H:Hp)(v:V)(u:Value)(Q:St→Hp→Prop),Inv X pins σ H s→AN v u→t v σ H Q →
  wpAny (model X.prog X.w) X.A (assign target X.env u) (fun _ s'=>∃σ' H',Inv X pins σ' H' s'∧Q σ' H') X.xe s
def PGs (X:Cx)(ts:List Expr)(t:TGs):Prop :=
 ∀(pins:List (Addr×Obj))(s:Shared)(σ:St)(H:Hp)(vs:List V)(us:List Value)(Q:St→Hp→Prop),Inv X pins σ H s→AA vs us→t vs σ H Q →
  wpAny (model X.prog X.w) X.A (assignInOrder ((assignEach ts X.env).map (·.2)) us) (fun _ s'=>∃σ' H',Inv X pins σ' H' s'∧Q σ' H') X.xe s
abbrev RY:=V→V→V→Hp→(Hp→Prop)→Prop
def U7 (X:Cx)(t:RY):Prop :=
 ∀(pins:List (Addr×Obj))(s:Shared)(σ:St)(H:Hp)(o i v:V)(ov iv u:Value)(Q:Hp→Prop),Inv X pins σ H s→AN o ov→AN i iv→AN v u→t o i v H Q →
  wpAny (model X.prog X.w) X.A (setItem ov iv u) (fun _ s'=>∃H',Inv X pins σ H' s'∧Q H') X.xe s
abbrev TIp:=V→V→Hp→VK→Prop
def PIp (X:Cx)(op:Operator)(t:TIp):Prop :=
 ∀(pins:List (Addr×Obj))(s:Shared)(σ:St)(H:Hp)(x y:V)(v u:Value)(Q:VK),Inv X pins σ H s→AN x v→AN y u→t x y H Q →
  wpAny (model X.prog X.w) X.A (inplaceOp op v u) (EP X pins σ Q) X.xe s
section
variable {X:Cx}{pos:Pos}
def BL (i:Nat):TG:=fun v σ H Q=>Q (σ.set i (some v)) H
theorem Gm {i:Nat}{x:Str} (hN:X.N.Nodup) (hi:X.N[i]? = some x) (hx:Loc X.env.scope x) (hf:X.fn x=true∨X.env.scope.names.lookup x=some .local:=by first|exact .inl rfl|exact .inr rfl|assumption):PG X (.Name x pos) (BL i):=by
 intro pins s σ H v u Q I r h
 exact wpAny_assign_Name (BN I hN hi hx r (fun s' I'=>⟨_,H,I',h⟩) hf)
def VG:TGs:=fun vs σ H Q=>vs=[]∧Q σ H
def LQ (t:TG)(u:TGs):TGs:=fun vs σ H Q=>∃v r,vs=v::r∧t v σ H fun σ' H'=>u r σ' H' Q
theorem Qc:PGs X [] VG:=by
 intro pins s σ H vs us Q I r h
 obtain⟨e,h⟩:=h
 subst e
 cases r
 exact assignInOrder_nil ⟨σ,H,I,h⟩
theorem Iy {e:Expr}{es:List Expr}{t:TG}{u:TGs} (h1:PG X e t) (h2:PGs X es u)
 (hs:(assignEach (e::es) X.env).map (·.2)=assign e X.env::(assignEach es X.env).map (·.2):=by rfl):PGs X (e::es) (LQ t u):=by
 intro pins s σ H vs us Q I r h
 obtain⟨v,vr,e1,h⟩:=h
 subst e1
 cases r with
 |cons r rr =>
  rw[hs]
  refine assignInOrder_cons (thn (h1 pins s σ H _ _ _ I r h) fun _ s1 hh=>?_)
  obtain⟨σ1,H1,I1,q1⟩:=hh
  exact h2 pins s1 σ1 H1 _ _ Q I1 rr q1
def UB (K:PySem.W.Frag)(n:Nat)(t:TGs):TG:=fun v σ H Q=>∃a xs,v=.ref a∧SqT K H a xs∧xs.length=n∧t xs σ H Q
theorem Rz {es:List Expr}{k:Nat}{t:TGs}{n:Nat} (hc:X.calm=true) (h:PGs X es t)
 (hn:(assignEach es X.env).length=n:=by rfl) (hst:(assignEach es X.env).findIdx? (·.1)=none:=by rfl):PG X (.Tuple es k pos) (UB X.K n t):=by
 intro pins s σ H v u Q I r hw
 obtain⟨a,xs,e1,hq,hl,hw⟩:=hw
 subst e1
 cases r
 obtain⟨its,rv,ht,hz⟩:=I.tuple hq
 refine assign_Tuple_tuple (I.ok.hd hc) ht (by simp[hn,←hl,rv.length]) hst fun h' hx=>?_
 have I1:Inv X pins σ H { s with heap:=h' }:=I.kept (t':=s.toks) fun b o e=>hx b o (qAo (qAh e)) e
 exact h pins _ σ H xs _ Q I1 (by simpa using rv) hw
def WO (to ti:TE)(t:RY):TG:=fun v σ H Q=>to σ H fun o H1=>ti σ H1 fun i H2=>t o i v H2 fun H3=>Q σ H3
theorem Wx {o i:Expr}{to ti:TE}{t:RY} (ho:PE X o to) (hi:PE X i ti) (hs:U7 X t)
 (ha:∀v,assign (.Subscript o i pos) X.env v=(do
  let ov ←holding [v] (eval o X.env)
  let iv ←holding [v,ov] (eval i X.env)
  standAt pos
  holding [v,ov,iv] (setItem ov iv v)
  release [v,ov,iv] []):=by intro _;rfl):PG X (.Subscript o i pos) (WO to ti t):=by
 intro pins s σ H v u Q I r h
 rw[ha]
 refine wpAny_bind (wpAny_holding (thn (ho pins s σ H _ I h) fun ov s1 hh=>?_))
 obtain⟨x,H1,I1,r1,q1⟩:=hh
 refine wpAny_bind (wpAny_holding (thn (hi pins s1 σ H1 _ I1 q1) fun iv s2 hh=>?_))
 obtain⟨y,H2,I2,r2,q2⟩:=hh
 refine wpAny_bind (wpAny_standAt (wpAny_bind (wpAny_holding (thn (hs pins s2 σ H2 x y v ov iv u _ I2 r1 r2 r q2) fun _ s3 hh=>?_))))
 obtain⟨H3,I3,q3⟩:=hh
 exact wpAny_release ⟨σ,H3,I3,q3⟩
def US (te:TE)(g:TG):TS:=fun D σ H=>te σ H fun x H1=>g x σ H1 D.nx
theorem Wr {tg e:Expr}{te:TE}{g:TG} (he:PE X e te) (hg:PG X tg g) (hs:swapsWithSole [tg] e pos.line X.env=pure false:=by rfl) (hw:swappedStores [tg] e X.env=pure none:=by rfl)
 (h1:(assignEach [tg] X.env).map (·.2)=[assign tg X.env]:=by rfl):PS X (.Assign [tg] e pos) (US te g):=by
 intro pins s σ H D I h
 refine wpAny_Assign_stores (thn (he pins s σ H _ I h) fun v s1 ⟨x,H1,I1,r1,q1⟩=>?_) hs hw
 rw[h1]
 exact thn (hg pins s1 σ H1 x v _ I1 r1 q1) fun _ s2 q=>q
theorem N4 {i:Nat}{x:Str}{e:Expr}{te:TE}{pos':Pos} (hN:X.N.Nodup) (hi:X.N[i]? = some x) (hx:Loc X.env.scope x) (he:PE X e te) (hs:swapsWith e (some (.Name x pos')) pos.line X.env=pure false:=by rfl) (hf:X.fn x=true∨X.env.scope.names.lookup x=some .local:=by first|exact .inl rfl|exact .inr rfl|assumption) :
 PS X (.Assign [.Name x pos'] e pos) (US te (BL i)):=by
 intro pins s σ H D I h
 refine wpAny_Assign_Name (thn (he pins s σ H _ I h) fun v s1 ⟨y,H1,I1,r1,q1⟩=>?_) hs
 exact BN I1 hN hi hx r1 (fun s2 I2=>⟨_,H1,I2,q1⟩) hf
def Zt (i j:Nat)(ta:TA):TS:=fun D σ H=>ta σ H fun vs H1=>∃v w,vs=[v,w]∧D.nx ((σ.set i (some v)).set j (some w)) H1
theorem XO {i j:Nat}{x y:Str}{a b:Expr}{ta:TA}{px py pt:Pos} {kt k2 pt2} (hc:X.calm=true) (hN:X.N.Nodup) (hi:X.N[i]? = some x) (hj:X.N[j]? = some y) (hij:i≠j)
 (hx:X.env.scope.names.lookup x=some .local) (hy:X.env.scope.names.lookup y=some .local) (ha:PA X [a,b] ta)
 (hw:swappedStores [.Tuple [.Name x px,.Name y py] kt pt] (.Tuple [a,b] k2 pt2) X.env=pure (some [x,y]))
 (hs:swapsWithSole [.Tuple [.Name x px,.Name y py] kt pt] (.Tuple [a,b] k2 pt2) pos.line X.env=pure false:=by rfl) :
 PS X (.Assign [.Tuple [.Name x px,.Name y py] kt pt] (.Tuple [a,b] k2 pt2) pos) (Zt i j ta):=by
 intro pins s σ H D I h
 rw[exec_Assign_arm]
 refine wpAny_bind (wpAny_standAt ?_)
 rw[hs]
 refine wpAny_bind (wpAny_pure ?_)
 rw[if_neg ∅]
 refine wpAny_bind (Tuple_ (thn (ha _ pins s σ H _ I h) fun us s1 hh=>?_))
 obtain⟨vs,H1,I1,r1,q1⟩:=hh
 obtain⟨v,w,e1,q1⟩:=q1
 subst e1
 obtain⟨u1,u2,rfl,rv,rw'⟩:∃u1 u2,us=[u1,u2]∧AN v u1∧AN w u2:=by
  cases r1 with
  |cons p q =>
   cases q with
   |cons p' q' =>
    cases q'
    exact⟨_,_,rfl,p,p'⟩
 refine wpAny_newObj_type ?_ (by show 2≤sizeLine;decide)
 have I2:Inv X pins σ H1 { s1 with heap:=s1.heap.push { cls:=.type "tuple",data:=.seq [u1,u2].toArray } }:=I1.kept (t':=s1.toks) fun b o e=>qAb _ e
 rw[hw]
 refine wpAny_bind (wpAny_pure ?_)
 show wpAny (model X.prog X.w) X.A (do rule "assign.swapped-stores";let items ←unpackItems (.ref s1.heap.objs.size) 2 none;assignInOrder [fun v=>bindName X.env y v,fun v=>bindName X.env x v] items.reverse;pure Flow.next) _ _ _
 refine wpAny_bind (wpAny_rule (wpAny_bind (unpackItems_tuple (items:=#[u1,u2]) (I.ok.hd hc) (IsTup.new s1.heap _) fun h' hx'=>?_)))
 have I3:=I2.kept (h':=h') (t':=s1.toks) fun b o e=>hx' b o (qAo (qAh e)) e
 show wpAny _ _ (assignInOrder [fun v=>bindName X.env y v,fun v=>bindName X.env x v] [u2,u1] >>= fun _=>pure Flow.next) _ _ _
 refine wpAny_bind (assignInOrder_cons (wpAny_bindName (BN I3 hN hj (.inl hy) rw' (fun s2 I4=>?_) (.inr hy))))
 refine assignInOrder_cons (wpAny_bindName (BN I4 hN hi (.inl hx) rv (fun s3 I5=>assignInOrder_nil (wpAny_pure ?_)) (.inr hx)))
 rw[List.set_comm _ _ (Ne.symm hij)] at I5
 exact⟨_,H1,I5,q1⟩
def Ys (i:Nat)(te:TE)(ti:TIp):TS:=fun D σ H=>∃x,σ[i]? = some (some x)∧te σ H fun y H1=>ti x y H1 fun z H2=>D.nx (σ.set i (some z)) H2
theorem Om {i:Nat}{x:Str}{e:Expr}{te:TE}{op:Operator}{ti:TIp}{pos':Pos} (hN:X.N.Nodup) (hi:X.N[i]? = some x) (hx:Loc X.env.scope x) (he:PE X e te) (ho:PIp X op ti) (hf:X.fn x=true∨X.env.scope.names.lookup x=some .local:=by first|exact .inl rfl|exact .inr rfl|assumption) :
 PS X (.AugAssign (.Name x pos') op e pos) (Ys i te ti):=by
 intro pins s σ H D I h
 obtain⟨v,e1,h⟩:=h
 obtain⟨m,hn,hl⟩:=I.loc
 have vis:Vis X.env.scope x:=by rcases hx with k|k;exact .inl k;exact .inr (.inl k)
 obtain⟨u,r,l⟩:=hl i x v hi e1 vis
 refine wpAny_AugAssign_Name ?_
 have go:wpAny (model X.prog X.w) X.A (eval e X.env) (fun w s₂=>wpAny (model X.prog X.w) X.A (inplaceOp op u w) (fun r s₃=>wpAny (model X.prog X.w) X.A (storeName X.env x r) (fun _=>SP X pins D .next) X.xe s₃) X.xe s₂) X.xe s:=by
  refine thn (he pins s σ H _ I h) fun w s1 hh=>?_
  obtain⟨y,H1,I1,r1,q1⟩:=hh
  refine thn (ho pins s1 σ H1 v y u w _ I1 r r1 q1) fun z s2 hh=>?_
  obtain⟨zv,H2,I2,r2,q2⟩:=hh
  exact BN I2 hN hi hx r2 (fun s3 I3=>⟨_,H2,I3,q2⟩) hf
 rcases l with⟨hk,hm⟩|⟨hk,c,hc,hcell⟩
 ·exact wpAny_loadName_local I.ok.kind hk hn hm go
 ·rcases hk with hk|hk
  ·exact wpAny_loadName_cell I.ok.kind hk hc hcell go
  ·rcases hx with k|k
   ·have:X.env.scope.names.lookup x=some .free:=hk
    rw[k] at this;cases this
   ·have:X.env.scope.names.lookup x=some .free:=hk
    rw[k] at this;cases this
def Uq (to ti te:TE)(tget:V→V→Hp→VK→Prop)(tip:TIp)(tset:RY):TS:=fun D σ H=>to σ H fun o H1=>ti σ H1 fun i H2=>tget o i H2 fun x H3=>te σ H3 fun y H4=>tip x y H4 fun z H5=>tset o i z H5 fun H6=>D.nx σ H6
def YX (X:Cx)(t:V→V→Hp→VK→Prop):Prop :=
 ∀(pins:List (Addr×Obj))(s:Shared)(σ:St)(H:Hp)(o i:V)(ov iv:Value)(Q:VK),Inv X pins σ H s→AN o ov→AN i iv→t o i H Q →
  wpAny (model X.prog X.w) X.A (getItem ov iv) (EP X pins σ Q) X.xe s
theorem V3 {o i e:Expr}{to ti te:TE}{tget:V→V→Hp→VK→Prop}{tip:TIp}{tset:RY}{op:Operator}{tpos:Pos} (ho:PE X o to) (hi:PE X i ti) (hg:YX X tget) (he:PE X e te) (hp:PIp X op tip) (hs:U7 X tset)
 (ha:∀ov iv new,augStore i ov iv new=(do holding [new,ov,iv] (setItem ov iv new);release [new,ov,iv] [];pure .next):=by intros;rfl):PS X (.AugAssign (.Subscript o i tpos) op e pos) (Uq to ti te tget tip tset):=by
 intro pins s σ H D I h
 refine wpAny_AugAssign_SubscriptAny (thn (ho pins s σ H _ I h) fun ov s1 ⟨x1,H1,I1,r1,q1⟩=>?_) ha
 refine thn (hi pins s1 σ H1 _ I1 q1) fun iv s2 hh=>?_
 obtain⟨x2,H2,I2,r2,q2⟩:=hh
 refine thn (hg pins s2 σ H2 x1 x2 ov iv _ I2 r1 r2 q2) fun old s3 hh=>?_
 obtain⟨x3,H3,I3,r3,q3⟩:=hh
 refine thn (he pins s3 σ H3 _ I3 q3) fun v s4 hh=>?_
 obtain⟨x4,H4,I4,r4,q4⟩:=hh
 refine thn (hp pins s4 σ H4 x3 x4 old v _ I4 r3 r4 q4) fun new s5 hh=>?_
 obtain⟨x5,H5,I5,r5,q5⟩:=hh
 exact thn (hs pins s5 σ H5 x1 x2 x5 ov iv new _ I5 r1 r2 r5 q5) fun _ s6 ⟨H6,I6,q6⟩=>⟨σ,H6,I6,q6⟩
def ipI (f:Int→Int→Int):TIp:=fun x y H Q=>∃i j,x=.int i∧y=.int j∧Q (.int (f i j)) H
theorem Rx:PIp X .Add (ipI fun i j=>i+j):=by
 intro pins s σ H x y v u Q I r1 r2 h
 obtain⟨i,j,e1,e2,q⟩:=h
 subst e1;subst e2
 obtain⟨t,rfl⟩:=r1
 obtain⟨t',rfl⟩:=r2
 exact iadd_int ⟨.int _,H,I.tok _,⟨_,rfl⟩,q⟩
theorem Rt:PIp X .Sub (ipI fun i j=>i-j):=by
 intro pins s σ H x y v u Q I r1 r2 h
 obtain⟨i,j,e1,e2,q⟩:=h
 subst e1;subst e2
 obtain⟨t,rfl⟩:=r1
 obtain⟨t',rfl⟩:=r2
 exact isub_int ⟨.int _,H,I.tok _,⟨_,rfl⟩,q⟩
end
section
variable {X:Cx}{pos:Pos}
def Ob (c:TT)(tb:TS):TS:=fun D σ H=>∃W:Nat→St→Hp→Prop,(∃m,W m σ H)∧∀m σ H,W m σ H →
 c σ H fun b H1=>if b=true then ∃N:St→Hp→Prop,(∀σ' H',N σ' H'→∃m',m'<m∧W m' σ' H')∧tb { D with nx:=N,ct:=N,bk:=D.nx } σ H1 else D.nx σ H1
theorem Nz {c:Expr}{body:List Stmt}{tc:TT}{tb:TS} (hp:PassesOwn (model X.prog X.w) X.A X.env X.xe) (hc:PT X c tc) (hb:PSs X body tb):PS X (.While c body [] pos) (Ob tc tb):=by
 intro pins s σ H D I h
 obtain⟨W,⟨m0,w0⟩,turn⟩:=h
 refine wpAny_While (codeAny_whileLoop (fun n s'=>∃σ' H',Inv X pins σ' H' s'∧W n σ' H') ?_ m0 ⟨σ,H,I,w0⟩)
 rintro n s1 ⟨σ1,H1,I1,w1⟩
 refine wpAny_passesOwn hp (thn (hc pins s1 σ1 H1 _ I1 (turn n σ1 H1 w1)) fun b s2 hh=>?_)
 obtain⟨H2,I2,q2⟩:=hh
 cases b with
 |true =>
  obtain⟨N,hN,q2⟩:=q2
  rw[if_pos rfl]
  refine wpAny_passesOwn hp (thn (hb pins s2 σ1 H2 _ I2 q2) fun f s3 q3=>?_)
  cases f with
  |next =>
   obtain⟨σ3,H3,I3,n3⟩:=q3
   obtain⟨m',hm,w3⟩:=hN σ3 H3 n3
   exact⟨m',hm,σ3,H3,I3,w3⟩
  |cont =>
   obtain⟨σ3,H3,I3,n3⟩:=q3
   obtain⟨m',hm,w3⟩:=hN σ3 H3 n3
   exact⟨m',hm,σ3,H3,I3,w3⟩
  |brk=>exact q3
  |ret v=>exact q3
 |false =>
  rw[if_neg qAe]
  exact wpAny_execs_nil ⟨σ1,H2,I2,q2⟩
end
structure It where
 go:Nat→Hp→Prop
 yld:Nat→Hp→V→Hp→Prop
 stop:Nat→Hp→Prop
def L9 (X:Cx)(pins:List (Addr×Obj))(H:Hp)(b:Addr):Prop :=
 H b=none∧b≠X.env.locals∧b∉X.fs∧(b∈X.ex∨X.s₀.heap.objs.size≤b)∧(∀x c,X.env.cells.lookup x=some c→c≠b)∧∀p∈X.pn++pins,p.1≠b
theorem Inv.fpOk {X:Cx}{pins:List (Addr×Obj)}{σ:St}{H H':Hp}{s:Shared}{b:Addr} (I:Inv X pins σ H s) (hb:s.heap.objs.size≤b) (hn:H' b=none):L9 X pins H' b:=by
 refine⟨hn,qBq (qAr I.lt hb),I.nofs hb,.inr (qAE I.sz hb),fun x c e z=>?_,fun p hp z=>?_⟩
 ·obtain⟨v,q⟩:=I.cell x c e
  exact absurd (qAr q.lt (by rw[z];exact hb)) (qA3 _)
 ·exact absurd (qAr (qAh (I.pin p hp).1) (by rw[z];exact hb)) (qA3 _)
structure MM (P:Program)(w:World)(K:PySem.W.Frag)(tg:Expr)(J:It)(fp:List Addr)(it:Addr)(tn:Nat→Heap→Prop):Prop where
 mem:it∈fp
 obj:∀i h,tn i h→∀b∈fp,∃o,h.get? b=some o∧∀v,o.data≠.cell v
 keep:∀i h h',tn i h→(∀b∈fp,∀o,h.get? b=some o→h'.get? b=some o)→tn i h'
 item:∀(X:Cx),X.prog=P→X.w=w→X.K=K→X.calm=true→∀(i:Nat)(pins:List (Addr×Obj))(s:Shared)(σ:St)(H:Hp)(E:Value→Shared→Prop),Inv X pins σ H s→(∀b∈fp,L9 X pins H b)→tn i s.heap→J.go i H →
  wpAny (model P w) X.A (pyNext (.ref it)) (fun r s1=>∃u,r=some u ∧
   wpAny (model P w) X.A (letOwnedTupleGo tg (.ref it) u) (fun _ s2=>∃x H',Inv X pins σ H' s2∧AN x u∧J.yld i H x H'∧tn (i+1) s2.heap∧∀b∈fp,H' b=none) E s1) E s
 done:∀(X:Cx),X.prog=P→X.w=w→X.K=K→X.calm=true→∀(i:Nat)(pins:List (Addr×Obj))(s:Shared)(σ:St)(H:Hp)(E:Value→Shared→Prop),Inv X pins σ H s→(∀b∈fp,L9 X pins H b)→tn i s.heap→J.stop i H →
  wpAny (model P w) X.A (pyNext (.ref it)) (fun r s1=>r=none∧Inv X pins σ H s1) E s
 self:∀(A:Around)(i:Nat)(s:Shared)(Q:Value→Shared→Prop)(E:Value→Shared→Prop),tn i s.heap→Q (.ref it) s→wpAny (model P w) A (pyIter (.ref it)) Q E s
abbrev TI:=St→Hp→(It→Hp→Prop)→Prop
def PIE (X:Cx)(pins:List (Addr×Obj))(σ:St)(tg:Expr)(R:It→Hp→Prop)(itv:Value)(s2:Shared):Prop :=
 ∃(it:Addr)(fp:List Addr)(tn:Nat→Heap→Prop)(J:It)(H':Hp),itv=.ref it∧Inv X pins σ H' s2∧MM X.prog X.w X.K tg J fp it tn∧tn 0 s2.heap∧(∀b∈fp,L9 X pins H' b)∧R J H'
def PI (X:Cx)(tg iter:Expr)(wi:TI):Prop :=
 ∀(pins:List (Addr×Obj))(s:Shared)(σ:St)(H:Hp)(R:It→Hp→Prop),Inv X pins σ H s→wi σ H R →
  wpAny (model X.prog X.w) X.A (eval iter X.env) (fun v s1=>wpAny (model X.prog X.w) X.A (pyIter v) (PIE X pins σ tg R) X.xe s1) X.xe s
theorem LD {M:Model}{A:Around}{E:Value→Shared→Prop}{s:Shared}{tg:Expr}{it:Addr}{u:Value}{o:Obj}{n:String}{vs:Array Value}{Q:Unit→Shared→Prop} (ho:s.heap.get? it=some o) (hc:o.cls=.type n) (hd:o.data=.fields vs)
 (hn:["enumerate","zip","dict_itemiterator","dict_reverseitemiterator","odict_iterator","itertools.zip_longest","itertools.pairwise"].contains n=false) (hQ:Q Unit.unit s):wpAny M A (letOwnedTupleGo tg (.ref it) u) Q E s:=by
 unfold letOwnedTupleGo
 cases tg<;>first
  |exact wpAny_pure hQ
  |(cases u<;>first
   |exact wpAny_pure hQ
   |(refine wpAny_bind (wpAny_load ho ?_)
     rw[hc,hd]
     show wpAny M A (if (["enumerate","zip","dict_itemiterator","dict_reverseitemiterator","odict_iterator","itertools.zip_longest","itertools.pairwise"].contains n&&vs[0]? == some (rawInt _))=true then _ else _) Q E s
     rw[if_neg (by intro h;rw[hn,Bool.false_and] at h;cases h)]
     exact wpAny_pure hQ))
def Itl (K:PySem.W.Frag)(a:Addr):It :=
 ⟨fun i H=>∃xs x,SqL K H a xs∧xs[i]? = some x,fun i H x H'=>H'=H∧∀xs,SqL K H a xs→xs[i]? = some x,fun i H=>∃xs,SqL K H a xs∧xs.length≤i⟩
def Itt (K:PySem.W.Frag)(a:Addr):It :=
 ⟨fun i H=>∃xs x,SqT K H a xs∧xs[i]? = some x,fun i H x H'=>H'=H∧∀xs,SqT K H a xs→xs[i]? = some x,fun i H=>∃xs,SqT K H a xs∧xs.length≤i⟩
def Itr (lo:Int)(n:Nat):It:=⟨fun i _=>i<n,fun i H x H'=>H'=H∧x=.int (lo+i),fun i _=>n≤i⟩
theorem Hc {P:Program}{w:World}{K:PySem.W.Frag}{tg:Expr} (a it:Addr):MM P w K tg (Itl K a) [it] it (fun i h=>h.IsListIter it a i) where
 mem:=by simp
 obj:=fun i h st b hb=>by
  have e:b=it:=by simpa using hb
  subst e
  obtain⟨o,e,c,d⟩:=st
  exact⟨o,e,fun v z=>by rw[d] at z;cases z⟩
 keep:=fun i h h' st k=>st.at fun o e=>k it (by simp) o e
 item:=by
  intro X hP hw hK hc i pins s σ H E I hf st hg
  subst hP hw hK
  obtain⟨xs,x,hq,hx⟩:=hg
  obtain⟨its,rv,p,hz⟩:=I.list hq
  obtain⟨u,hu,ru⟩:=rv.get hx
  obtain⟨f0,f1,f2,f3,f4,f5⟩:=hf it (by simp)
  refine wpAny_pyNext_list_item st p.isList (x:=u) (by simpa using hu) fun h' st' sb=>?_
  have I1:Inv X pins σ H { s with heap:=h' }:=I.turned (t':=s.toks) (fun b o hb e=>(sb.2 b hb).trans e) f0 f1 f3 f4 f5
  obtain⟨o,e,c,d⟩:=id st'
  exact⟨u,rfl,LD (s:={ s with heap:=h' }) e c d ∅ ⟨x,H,I1,ru,⟨rfl,fun ys hy=>by rw[I.list_inj hy hq];exact hx⟩,st',fun b hb=>(hf b hb).1⟩⟩
 done:=by
  intro X hP hw hK hc i pins s σ H E I hf st hg
  subst hP hw hK
  obtain⟨xs,hq,hx⟩:=hg
  obtain⟨its,rv,p,hz⟩:=I.list hq
  obtain⟨f0,f1,f2,f3,f4,f5⟩:=hf it (by simp)
  have hl:=rv.length
  exact wpAny_pyNext_list_end (I.ok.hd hc) st p.isList (by simp;omega) fun h' eb=>⟨rfl,I.turned (t':=s.toks) (fun b o hb e=>eb b o hb e) f0 f1 f3 f4 f5⟩
 self:=fun _ _ _ _ _ st h=>wpAny_pyIter_listiter st h
theorem Fh {P:Program}{w:World}{K:PySem.W.Frag}{tg:Expr} (a it:Addr):MM P w K tg (Itt K a) [it] it (fun i h=>h.IsTupleIter it a i) where
 mem:=by simp
 obj:=fun i h st b hb=>by
  have e:b=it:=by simpa using hb
  subst e
  obtain⟨o,e,c,d⟩:=st
  exact⟨o,e,fun v z=>by rw[d] at z;cases z⟩
 keep:=fun i h h' st k=>st.at fun o e=>k it (by simp) o e
 item:=by
  intro X hP hw hK hc i pins s σ H E I hf st hg
  subst hP hw hK
  obtain⟨xs,x,hq,hx⟩:=hg
  obtain⟨its,rv,p,hz⟩:=I.tuple hq
  obtain⟨u,hu,ru⟩:=rv.get hx
  obtain⟨f0,f1,f2,f3,f4,f5⟩:=hf it (by simp)
  refine wpAny_pyNext_tuple_item st (show s.heap.IsTuple a its.toArray from p) (x:=u) (by simpa using hu) fun h' st' sb=>?_
  have I1:Inv X pins σ H { s with heap:=h' }:=I.turned (t':=s.toks) (fun b o hb e=>(sb.2 b hb).trans e) f0 f1 f3 f4 f5
  obtain⟨o,e,c,d⟩:=id st'
  exact⟨u,rfl,LD (s:={ s with heap:=h' }) e c d ∅ ⟨x,H,I1,ru,⟨rfl,fun ys hy=>by rw[I.tuple_inj hy hq];exact hx⟩,st',fun b hb=>(hf b hb).1⟩⟩
 done:=by
  intro X hP hw hK hc i pins s σ H E I hf st hg
  subst hP hw hK
  obtain⟨xs,hq,hx⟩:=hg
  obtain⟨its,rv,p,hz⟩:=I.tuple hq
  obtain⟨f0,f1,f2,f3,f4,f5⟩:=hf it (by simp)
  have hl:=rv.length
  exact wpAny_pyNext_tuple_end (I.ok.hd hc) st (show s.heap.IsTuple a its.toArray from p) (by simp;omega) fun h' eb=>⟨rfl,I.turned (t':=s.toks) (fun b o hb e=>eb b o hb e) f0 f1 f3 f4 f5⟩
 self:=fun _ _ _ _ _ st h=>wpAny_pyIter_tupleiter st h
theorem Jn {P:Program}{w:World}{K:PySem.W.Frag}{tg:Expr} (it:Addr) (lo:Int) (n:Nat):MM P w K tg (Itr lo n) [it] it (fun i h=>IsRangeIter h it (lo+(i:Nat)*1) ((n:Int)-(i:Nat)) 1) where
 mem:=by simp
 obj:=fun i h st b hb=>by
  have e:b=it:=by simpa using hb
  subst e
  exact⟨_,st,fun v z=>by
   have z':Data.fields _=Data.cell v:=z
   cases z'⟩
 keep:=fun i h h' st k=>k it (by simp) _ st
 item:=by
  intro X hP hw hK hc i pins s σ H E I hf st hg
  subst hP hw hK
  obtain⟨f0,f1,f2,f3,f4,f5⟩:=hf it (by simp)
  have W:=Walks.range (prog:=X.prog) (w:=X.w) (I.ok.hd hc) it lo 1 n
  refine W.item i s _ _ hg st fun v h' tk hv st' kk=>?_
  obtain⟨t,rfl⟩:=hv
  have I1:Inv X pins σ H { s with heap:=h',toks:=tk }:=I.turned (fun b o hb e=>kk b o (by simpa using hb) e) f0 f1 f3 f4 f5
  refine⟨_,rfl,LD (s:={ s with heap:=h',toks:=tk }) (n:="range_iterator") st' rfl rfl ∅ ⟨.int (lo+i),H,I1,⟨t,?_⟩,⟨rfl,rfl⟩,st',fun b hb=>(hf b hb).1⟩⟩
  rw[qCh]
 done:=by
  intro X hP hw hK hc i pins s σ H E I hf st hg
  subst hP hw hK
  obtain⟨f0,f1,f2,f3,f4,f5⟩:=hf it (by simp)
  exact wpAny_pyNext_range_end (I.ok.hd hc) st (by have:n≤i:=hg;omega) fun h' eb=>⟨rfl,I.turned (t':=s.toks) (fun b o hb e=>eb b o hb e) f0 f1 f3 f4 f5⟩
 self:=fun _ _ _ _ _ st h=>wpAny_pyIter_rangeiter st h
end L2
namespace L2
open PySem PySem.Spec PyProof.Rows
section
variable {X:Cx}{tg:Expr}
def VF (K:PySem.W.Frag)(tl:TE):TI:=fun σ H R=>tl σ H fun x H1=>∃a,x=.ref a∧(∃xs,SqL K H1 a xs)∧R (Itl K a) H1
def Zv (K:PySem.W.Frag)(tl:TE):TI:=fun σ H R=>tl σ H fun x H1=>∃a,x=.ref a∧(∃xs,SqT K H1 a xs)∧R (Itt K a) H1
theorem VV {l:Expr}{tl:TE} (hl:PE X l tl):PI X tg l (VF X.K tl):=by
 intro pins s σ H R I h
 refine thn (hl pins s σ H _ I h) fun v s1 hh=>?_
 obtain⟨x,H1,I1,r1,q1⟩:=hh
 obtain⟨a,e,⟨xs,hq⟩,q⟩:=q1
 subst e
 cases r1
 obtain⟨its,rv,p,hz⟩:=I1.list hq
 refine wpAny_pyIter_list p.isList ?_
 refine⟨s1.heap.objs.size,[s1.heap.objs.size],_,_,H1,rfl,I1.kept (t':=s1.toks) fun b o e=>qAb _ e,Hc a _,⟨_,qAm _ rfl,rfl,rfl⟩,fun b hb=>?_,q⟩
 have e:b=s1.heap.objs.size:=by simpa using hb
 subst e
 exact I1.fpOk (qAg _) (I1.hok.fresh (qAg _))
theorem Xg {l:Expr}{tl:TE} (hl:PE X l tl):PI X tg l (Zv X.K tl):=by
 intro pins s σ H R I h
 refine thn (hl pins s σ H _ I h) fun v s1 hh=>?_
 obtain⟨x,H1,I1,r1,q1⟩:=hh
 obtain⟨a,e,⟨xs,hq⟩,q⟩:=q1
 subst e
 cases r1
 obtain⟨its,rv,p,hz⟩:=I1.tuple hq
 refine wpAny_pyIter_tuple (show s1.heap.IsTuple a its.toArray from p) ?_
 refine⟨s1.heap.objs.size,[s1.heap.objs.size],_,_,H1,rfl,I1.kept (t':=s1.toks) fun b o e=>qAb _ e,Fh a _,⟨_,qAm _ rfl,rfl,rfl⟩,fun b hb=>?_,q⟩
 have e:b=s1.heap.objs.size:=by simpa using hb
 subst e
 exact I1.fpOk (qAg _) (I1.hok.fresh (qAg _))
theorem IY {pins:List (Addr×Obj)}{σ:St}{H:Hp}{s:Shared}{R:It→Hp→Prop}{E:Value→Shared→Prop}{lo hi:Int}{t u v:Tok}{tk:Nat} (I:Inv X pins σ H s) (h1:-(2^62)≤lo) (h2:lo<2^62) (h3:-(2^62)≤hi) (h4:hi<2^62)
 (q:R (Itr lo (hi-lo).toNat) H):wpAny (model X.prog X.w) X.A (pyIter (.ref s.heap.objs.size)) (PIE X pins σ tg R) E { s with heap:=s.heap.push { cls:=.type "range",data:=.fields #[.int lo t,.int hi u,.int 1 v] },toks:=tk }:=by
 refine wpAny_pyIter_range (IsRange.new ..) (small_one h1 h2 h3 h4) ?_
 have I1:Inv X pins σ H { s with heap:=s.heap.push { cls:=.type "range",data:=.fields #[.int lo t,.int hi u,.int 1 v] },toks:=tk }:=I.kept fun b o e=>qAb _ e
 refine⟨(s.heap.push { cls:=.type "range",data:=.fields #[.int lo t,.int hi u,.int 1 v] }).objs.size,[(s.heap.push { cls:=.type "range",data:=.fields #[.int lo t,.int hi u,.int 1 v] }).objs.size],_,_,H,rfl,
  I1.kept (t':=tk) fun b o e=>qAb _ e,Jn _ lo (hi-lo).toNat,?_,fun b hb=>?_,q⟩
 ·have e1:lo+((0:Nat):Int)*1=lo:=by simp
  have e2:(((hi-lo).toNat:Nat):Int)-((0:Nat):Int)=Builtin.Range.rangeSize lo hi 1:=by rw[rangeSize_one];split<;>omega
  show IsRangeIter _ _ (lo+((0:Nat):Int)*1) ((((hi-lo).toNat:Nat):Int)-((0:Nat):Int)) 1
  rw[e1,e2]
  exact qAm _ rfl
 ·have e:b=(s.heap.push { cls:=.type "range",data:=.fields #[.int lo t,.int hi u,.int 1 v] }).objs.size:=by simpa using hb
  subst e
  exact I1.fpOk (qAg _) (I1.hok.fresh (qAg _))
def MD (ta:TA):TI:=fun σ H R=>ta σ H fun vs H1=>∃j:Int,vs=[.int j]∧-(2^62)≤j∧j<2^62∧R (Itr 0 j.toNat) H1
def Qi (ta:TA):TI:=fun σ H R=>ta σ H fun vs H1=>∃i j:Int,vs=[.int i,.int j]∧(-(2^62)≤i∧i<2^62∧-(2^62)≤j∧j<2^62)∧R (Itr i (j-i).toNat) H1
theorem D9 {a:Expr}{ta:TA}{p pos:Pos} (hg:Gl X "range") (hm:X.mg "range"=none) (ha:PA X [a] ta) (hs:starEach [a] X.env=[(false,eval a X.env)]:=by rfl):PI X tg (.Call (.Name "range" p) [a] [] pos) (MD ta):=by
 intro pins s σ H R I h
 refine Call_ (B6 I hg hm boot_range (qAX (thn (ha pos pins s σ H _ I h) fun us s1 ⟨vs,H1,I1,r1,q1⟩=>?_) hs rfl))
 obtain⟨j,e,q1,q2,q⟩:=q1
 subst e
 cases r1 with
 |cons r rr =>
  cases rr
  obtain⟨t,rfl⟩:=r
  exact call_range_1 (IY I1 () () q1 q2 (by simpa using q))
theorem So {a b:Expr}{ta:TA}{p pos:Pos} (hg:Gl X "range") (hm:X.mg "range"=none) (ha:PA X [a,b] ta) (hs:starEach [a,b] X.env=[(false,eval a X.env),(false,eval b X.env)]:=by rfl) (hs2:starEach [b] X.env=[(false,eval b X.env)]:=by rfl) :
 PI X tg (.Call (.Name "range" p) [a,b] [] pos) (Qi ta):=by
 intro pins s σ H R I h
 refine Call_ (B6 I hg hm boot_range (qAX (thn (ha pos pins s σ H _ I h) fun us s1 ⟨vs,H1,I1,r1,q1⟩=>?_) (by rw[hs,hs2]) (by rw[hs2];rfl)))
 obtain⟨i,j,e,⟨q1,q2,q3,q4⟩,q⟩:=q1
 subst e
 cases r1 with
 |cons r rr =>
  cases rr with
  |cons r' rr =>
   cases rr
   obtain⟨t,rfl⟩:=r
   obtain⟨t',rfl⟩:=r'
   exact call_range_2 (IY I1 q1 q2 q3 q4 q)
def Kg (wi:TI)(g:TG)(tb:TS):TS:=fun D σ H=>wi σ H fun J H1=>∃W:Nat→Nat→St→Hp→Prop,(∃m,W 0 m σ H1)∧∀i m σ H,W i m σ H →
 (J.stop i H∧D.nx σ H)∨(J.go i H∧∃N:St→Hp→Prop,(∀σ' H',N σ' H'→∃m',m'<m∧W (i+1) m' σ' H')∧∀x H',J.yld i H x H'→g x σ H' fun σ2 H2=>tb { D with nx:=N,ct:=N,bk:=D.nx } σ2 H2)
def GS (fp:List Addr)(h:Heap):List (Addr×Obj):=fp.filterMap fun b=>(h.get? b).map fun o=>(b,o)
theorem CV {fp:List Addr}{h:Heap}{b:Addr}{o:Obj} (hb:b∈fp) (e:h.get? b=some o):(b,o)∈GS fp h:=qBd.mpr ⟨b,hb,by rw[e];rfl⟩
theorem Le {fp:List Addr}{h:Heap}{p:Addr×Obj} (hp:p∈GS fp h):p.1∈fp∧h.get? p.1=some p.2:=by
 obtain⟨b,hb,e⟩:=qBd.mp hp
 cases q:h.get? b with
 |none=>rw[q] at e;cases e
 |some o =>
  rw[q] at e
  have e':(b,o)=p:=qAn e
  subst e'
  exact⟨hb,q⟩
theorem Inv.pinned {pins:List (Addr×Obj)}{σ:St}{H:Hp}{s:Shared}{fp:List Addr} (I:Inv X pins σ H s) (hf:∀b∈fp,L9 X pins H b) (ho:∀b∈fp,∃o,s.heap.get? b=some o∧∀v,o.data≠.cell v):Inv X (pins++GS fp s.heap) σ H s :=
 I.pins_of fun p hp=>(qAB.mp hp).elim (fun z=>I.pin p (qAv _ z)) fun z=>by
  obtain⟨hb,e⟩:=Le z
  obtain⟨f0,f1,f2,_⟩:=hf p.1 hb
  obtain⟨o,e',d⟩:=ho p.1 hb
  rw[e] at e';cases e'
  exact⟨e,f0,f1,f2,d⟩
theorem Inv.unpinned {pins pl:List (Addr×Obj)}{σ:St}{H:Hp}{s:Shared} (I:Inv X (pins++pl) σ H s):Inv X pins σ H s:=I.pins_of fun p hp=>I.pin p (qAv _ (qB8 _ hp))
theorem J9 {iter:Expr}{body:List Stmt}{wi:TI}{g:TG}{tb:TS}{pos:Pos} (hp:PassesOwn (model X.prog X.w) X.A X.env X.xe) (hc:X.calm=true) (hi:PI X tg iter wi) (hg:PG X tg g) (hb:PSs X body tb)
 (hs:∀x,foldedSetIterable iter X.env x=pure x:=by intro _;rfl):PS X (.For tg iter body [] pos) (Kg wi g tb):=by
 intro pins s σ H D I h
 refine wpAny_For (thn (hi pins s σ H _ I h) fun v s1 h1=>thn h1 fun itv s2 h2=>?_) hs
 obtain⟨it,fp,tn,J,H2,e,I2,T,st2,f2,W,⟨m0,w0⟩,turn⟩:=h2
 subst e
 have stat:∀{H':Hp},(∀b∈fp,H' b=none)→∀b∈fp,L9 X pins H' b:=fun hn b hb=>⟨hn b hb,(f2 b hb).2⟩
 refine codeAny_forLoop_any (fun n s'=>∃i σ' H',Inv X pins σ' H' s'∧tn i s'.heap∧(∀b∈fp,H' b=none)∧W i n σ' H') ?_ m0 ⟨0,σ,H2,I2,st2,fun b hb=>(f2 b hb).1,w0⟩
 rintro n s3 ⟨i,σ3,H3,I3,st3,fr3,w3⟩
 rcases turn i n σ3 H3 w3 with⟨stop,qn⟩|⟨go,N,hN,step⟩
 ·refine wpAny_passesOwn hp (thn (T.done X rfl rfl rfl hc i pins s3 σ3 H3 X.xe I3 (stat fr3) st3 stop) fun r s4 hh=>?_)
  obtain⟨hr,I4⟩:=hh
  subst hr
  exact wpAny_execs_nil ⟨σ3,H3,I4,qn⟩
 ·refine wpAny_passesOwn hp (thn (T.item X rfl rfl rfl hc i pins s3 σ3 H3 X.xe I3 (stat fr3) st3 go) fun r s4 hh=>?_)
  obtain⟨u,hr,h4⟩:=hh
  subst hr
  refine wpAny_passesOwn hp (thn h4 fun _ s5 hh=>?_)
  obtain⟨x,H5,I5,r5,y5,st5,fr5⟩:=hh
  have I5':=I5.pinned (stat fr5) (T.obj _ _ st5)
  refine wpAny_passesOwn hp (thn (hg _ s5 σ3 H5 x u _ I5' r5 (step x H5 y5)) fun _ s6 hh=>?_)
  obtain⟨σ6,H6,I6,q6⟩:=hh
  refine wpAny_passesOwn hp (thn (hb _ s6 σ6 H6 _ I6 q6) fun f s7 q7=>?_)
  have again:∀{σ7:St}{H7:Hp},Inv X (pins++GS fp s5.heap) σ7 H7 s7→N σ7 H7→∃m,m<n∧∃i σ' H',Inv X pins σ' H' s7∧tn i s7.heap∧(∀b∈fp,H' b=none)∧W i m σ' H':=fun {σ7 H7} I7 n7=>by
   obtain⟨m',hm,w7⟩:=hN σ7 H7 n7
   refine⟨m',hm,i+1,σ7,H7,I7.unpinned,T.keep _ _ _ st5 fun b hb o e=>(I7.pin (b,o) (qAv _ (qAv _ (CV hb e)))).1,fun b hb=>?_,w7⟩
   obtain⟨o,e,d⟩:=T.obj _ _ st5 b hb
   exact(I7.pin (b,o) (qAv _ (qAv _ (CV hb e)))).2.1
  cases f with
  |next=>obtain⟨σ7,H7,I7,n7⟩:=q7;exact again I7 n7
  |cont=>obtain⟨σ7,H7,I7,n7⟩:=q7;exact again I7 n7
  |brk=>obtain⟨σ7,H7,I7,q7⟩:=q7;exact⟨σ7,H7,I7.unpinned,q7⟩
  |ret v=>obtain⟨x7,σ7,H7,I7,r7,q7⟩:=q7;exact⟨x7,σ7,H7,I7.unpinned,r7,q7⟩
end
theorem MF {K:PySem.W.Frag}{a:Addr}{xs:List V}{g:TG}{tb:TS}{D:GI}{σ:St}{H:Hp} (Pv:Nat→St→Hp→Prop) (h0:Pv 0 σ H) (hl:∀i σ H,i≤xs.length→Pv i σ H→SqL K H a xs)
 (hs:∀i x σ H,xs[i]? = some x→Pv i σ H→g x σ H fun σ2 H2=>tb { D with nx:=Pv (i+1),ct:=Pv (i+1),bk:=D.nx } σ2 H2) (hd:∀σ H,Pv xs.length σ H→D.nx σ H) :
 ∃W:Nat→Nat→St→Hp→Prop,(∃m,W 0 m σ H)∧∀i m σ H,W i m σ H →
  ((Itl K a).stop i H∧D.nx σ H)∨((Itl K a).go i H∧∃N:St→Hp→Prop,(∀σ' H',N σ' H'→∃m',m'<m∧W (i+1) m' σ' H')∧∀x H',(Itl K a).yld i H x H'→g x σ H' fun σ2 H2=>tb { D with nx:=N,ct:=N,bk:=D.nx } σ2 H2):=by
 refine⟨fun i m σ H=>m=xs.length-i∧i≤xs.length∧Pv i σ H,⟨xs.length,by simp,qAw _,h0⟩,?_⟩
 rintro i m σ H ⟨rfl,hi,p⟩
 have q:=hl i σ H hi p
 by_cases hlt:i<xs.length
 ·refine .inr ⟨⟨xs,xs[i],q,by simp[hlt]⟩,Pv (i+1),fun σ' H' p'=>⟨xs.length-(i+1),(),rfl,hlt,p'⟩,fun x H' y=>?_⟩
  obtain⟨e,y⟩:=y
  subst e
  exact hs i x σ _ (y xs q) p
 ·have e:i=xs.length:=()
  subst e
  exact .inl ⟨⟨xs,q,qAg _⟩,hd σ H p⟩
theorem OR {K:PySem.W.Frag}{a:Addr}{xs:List V}{g:TG}{tb:TS}{D:GI}{σ:St}{H:Hp} (Pv:Nat→St→Hp→Prop) (h0:Pv 0 σ H) (hl:∀i σ H,i≤xs.length→Pv i σ H→SqT K H a xs)
 (hs:∀i x σ H,xs[i]? = some x→Pv i σ H→g x σ H fun σ2 H2=>tb { D with nx:=Pv (i+1),ct:=Pv (i+1),bk:=D.nx } σ2 H2) (hd:∀σ H,Pv xs.length σ H→D.nx σ H) :
 ∃W:Nat→Nat→St→Hp→Prop,(∃m,W 0 m σ H)∧∀i m σ H,W i m σ H →
  ((Itt K a).stop i H∧D.nx σ H)∨((Itt K a).go i H∧∃N:St→Hp→Prop,(∀σ' H',N σ' H'→∃m',m'<m∧W (i+1) m' σ' H')∧∀x H',(Itt K a).yld i H x H'→g x σ H' fun σ2 H2=>tb { D with nx:=N,ct:=N,bk:=D.nx } σ2 H2):=by
 refine⟨fun i m σ H=>m=xs.length-i∧i≤xs.length∧Pv i σ H,⟨xs.length,by simp,qAw _,h0⟩,?_⟩
 rintro i m σ H ⟨rfl,hi,p⟩
 have q:=hl i σ H hi p
 by_cases hlt:i<xs.length
 ·refine .inr ⟨⟨xs,xs[i],q,by simp[hlt]⟩,Pv (i+1),fun σ' H' p'=>⟨xs.length-(i+1),(),rfl,hlt,p'⟩,fun x H' y=>?_⟩
  obtain⟨e,y⟩:=y
  subst e
  exact hs i x σ _ (y xs q) p
 ·have e:i=xs.length:=()
  subst e
  exact .inl ⟨⟨xs,q,qAg _⟩,hd σ H p⟩
theorem EK {lo:Int}{n:Nat}{g:TG}{tb:TS}{D:GI}{σ:St}{H:Hp} (Pv:Nat→St→Hp→Prop) (h0:Pv 0 σ H)
 (hs:∀i σ H,i<n→Pv i σ H→g (.int (lo+i)) σ H fun σ2 H2=>tb { D with nx:=Pv (i+1),ct:=Pv (i+1),bk:=D.nx } σ2 H2) (hd:∀σ H,Pv n σ H→D.nx σ H) :
 ∃W:Nat→Nat→St→Hp→Prop,(∃m,W 0 m σ H)∧∀i m σ H,W i m σ H →
  ((Itr lo n).stop i H∧D.nx σ H)∨((Itr lo n).go i H∧∃N:St→Hp→Prop,(∀σ' H',N σ' H'→∃m',m'<m∧W (i+1) m' σ' H')∧∀x H',(Itr lo n).yld i H x H'→g x σ H' fun σ2 H2=>tb { D with nx:=N,ct:=N,bk:=D.nx } σ2 H2):=by
 refine⟨fun i m σ H=>m=n-i∧i≤n∧Pv i σ H,⟨n,by simp,qAw _,h0⟩,?_⟩
 rintro i m σ H ⟨rfl,hi,p⟩
 by_cases hlt:i<n
 ·refine .inr ⟨hlt,Pv (i+1),fun σ' H' p'=>⟨n-(i+1),(),rfl,hlt,p'⟩,fun x H' y=>?_⟩
  obtain⟨e,y⟩:=y
  subst e y
  exact hs i σ _ hlt p
 ·have e:i=n:=()
  subst e
  exact .inl ⟨qAg _,hd σ H p⟩
theorem Ts {c:TT}{tb:TS}{D:GI}{σ:St}{H:Hp} (Pv:St→Hp→Prop) (μ:St→Hp→Nat) (h0:Pv σ H)
 (hs:∀σ H,Pv σ H→c σ H fun b H1=>if b=true then tb { D with nx:=fun σ' H'=>Pv σ' H'∧μ σ' H'<μ σ H,ct:=fun σ' H'=>Pv σ' H'∧μ σ' H'<μ σ H,bk:=D.nx } σ H1 else D.nx σ H1)
 (mono:∀σ H Q Q',(∀b H1,Q b H1→Q' b H1)→c σ H Q→c σ H Q'):Ob c tb D σ H:=by
 refine⟨fun m σ H=>m=μ σ H∧Pv σ H,⟨_,rfl,h0⟩,?_⟩
 rintro m σ H ⟨rfl,p⟩
 refine mono σ H _ _ (fun b H1 q=>?_) (hs σ H p)
 cases b with
 |true=>exact⟨_,fun σ' H' ⟨p',l⟩=>⟨_,l,rfl,p'⟩,q⟩
 |false=>exact q
end L2
namespace L2
open PySem PySem.Spec PyProof.Rows
abbrev R2:=V→V→Hp→VK→Prop
def OpR (X:Cx)(f:Value→Value→Sem Value)(r:R2):Prop :=
 ∀(pins:List (Addr×Obj))(s:Shared)(σ:St)(H:Hp)(x y:V)(v u:Value)(Q:VK),Inv X pins σ H s→AN x v→AN y u→r x y H Q →
  wpAny (model X.prog X.w) X.A (f v u) (EP X pins σ Q) X.xe s
def UnR (X:Cx)(f:Value→Sem Value)(r:V→Hp→VK→Prop):Prop :=
 ∀(pins:List (Addr×Obj))(s:Shared)(σ:St)(H:Hp)(x:V)(v:Value)(Q:VK),Inv X pins σ H s→AN x v→r x H Q →
  wpAny (model X.prog X.w) X.A (f v) (EP X pins σ Q) X.xe s
def A7 (X:Cx)(f:Value)(r:List V→Hp→VK→Prop):Prop :=
 ∀(pins:List (Addr×Obj))(s:Shared)(σ:St)(H:Hp)(xs:List V)(us:List Value)(Q:VK),Inv X pins σ H s→AA xs us→r xs H Q →
  wpAny (model X.prog X.w) X.A (call f us) (EP X pins σ Q) X.xe s
def Zh (X:Cx)(r:V→Hp→(Bool→Hp→Prop)→Prop):Prop :=
 ∀(pins:List (Addr×Obj))(s:Shared)(σ:St)(H:Hp)(x:V)(v:Value)(Q:Bool→Hp→Prop),Inv X pins σ H s→AN x v→r x H Q →
  wpAny (model X.prog X.w) X.A (truthy v) (TP X pins σ Q) X.xe s
def tOp (r:R2)(ta tb:TE):TE:=fun σ H Q=>ta σ H fun x H1=>tb σ H1 fun y H2=>r x y H2 Q
def tUn (r:V→Hp→VK→Prop)(ta:TE):TE:=fun σ H Q=>ta σ H fun x H1=>r x H1 Q
def rI (C:Int→Int→Prop)(g:Int→Int→V):R2:=fun x y H Q=>∃i j,x=.int i∧y=.int j∧C i j∧Q (g i j) H
def rI0 (g:Int→Int→V):R2:=fun x y H Q=>∃i j,x=.int i∧y=.int j∧Q (g i j) H
def rU (g:Int→V):V→Hp→VK→Prop:=fun x H Q=>∃i,x=.int i∧Q (g i) H
section
variable {X:Cx}{a b c:Expr}{ta tb tc:TE}{pos:Pos}
theorem QF (ha:PE X a ta)(hb:PE X b tb){pins:List (Addr×Obj)}{s:Shared}{σ:St}{H:Hp}{R:V→V→Hp→Prop} (I:Inv X pins σ H s)
 (h:ta σ H fun x H1=>tb σ H1 fun y H2=>R x y H2){Q:Value→Shared→Prop}{f:Value→Value→Sem Value}
 (hf:∀v u s2 x y H2,Inv X pins σ H2 s2→AN x v→AN y u→R x y H2→wpAny (model X.prog X.w) X.A (f v u) Q X.xe s2) :
 wpAny (model X.prog X.w) X.A (eval a X.env) (fun v s₁=>wpAny (model X.prog X.w) X.A (eval b X.env) (fun u s₂=>wpAny (model X.prog X.w) X.A (f v u) Q X.xe s₂) X.xe s₁) X.xe s:=by
 refine thn (ha pins s σ H _ I h) fun v s1 hh=>?_
 obtain⟨x,H1,I1,r1,q1⟩:=hh
 refine thn (hb pins s1 σ H1 _ I1 q1) fun u s2 hh=>?_
 obtain⟨y,H2,I2,r2,q2⟩:=hh
 exact hf v u s2 x y H2 I2 r1 r2 q2
theorem Pa {op:Operator}{r:R2} (ho:OpR X (binaryOp op) r) (ha:PE X a ta) (hb:PE X b tb):PE X (.BinOp a op b pos) (tOp r ta tb):=by
 intro pins s σ H Q I h
 exact wpAny_BinOp (QF ha hb I h fun v u s2 x y H2 I2 rx ry q=>ho pins s2 σ H2 x y v u Q I2 rx ry q)
theorem VO {op:UnaryOp}{r:V→Hp→VK→Prop} (ho:UnR X (unaryOp op) r) (ha:PE X a ta):PE X (.UnaryOp op a pos) (tUn r ta):=by
 intro pins s σ H Q I h
 exact UnaryOp_ (thn (ha pins s σ H _ I h) fun v s1 ⟨x,H1,I1,r1,q1⟩=>ho pins s1 σ H1 x v Q I1 r1 q1)
theorem ZJ {op:Operator}{r:R2} (ho:OpR X (inplaceOp op) r){pins:List (Addr×Obj)}{s:Shared}{σ:St}{H:Hp}{x y:V}{v u:Value}{Q:VK} (I:Inv X pins σ H s)
 (rx:AN x v) (ry:AN y u) (q:r x y H Q):wpAny (model X.prog X.w) X.A (inplaceOp op v u) (EP X pins σ Q) X.xe s:=ho pins s σ H x y v u Q I rx ry q
theorem opI {f:Value→Value→Sem Value}{C:Int→Int→Prop}{g:Int→Int→Int}
 (rule:∀(i j:Int)(t u:Tok)(s:Shared)(Q:Value→Shared→Prop)(E:Value→Shared→Prop),C i j→Q (.int (g i j) s.toks) { s with toks:=s.toks+1 }→wpAny (model X.prog X.w) X.A (f (.int i t) (.int j u)) Q E s) :
 OpR X f (rI C fun i j=>.int (g i j)):=by
 intro pins s σ H x y v u Q I rx ry h
 obtain⟨i,j,rfl,rfl,hc,q⟩:=h
 obtain⟨t,rfl⟩:=rx
 obtain⟨t',rfl⟩:=ry
 exact rule i j t t' s _ _ hc ⟨.int (g i j),H,I.tok _,⟨_,rfl⟩,q⟩
theorem L6 {f:Value→Value→Sem Value}{g:Int→Int→Int}
 (rule:∀(i j:Int)(t u:Tok)(s:Shared)(Q:Value→Shared→Prop)(E:Value→Shared→Prop),Q (.int (g i j) s.toks) { s with toks:=s.toks+1 }→wpAny (model X.prog X.w) X.A (f (.int i t) (.int j u)) Q E s) :
 OpR X f (rI0 fun i j=>.int (g i j)):=by
 intro pins s σ H x y v u Q I rx ry h
 obtain⟨i,j,rfl,rfl,q⟩:=h
 obtain⟨t,rfl⟩:=rx
 obtain⟨t',rfl⟩:=ry
 exact rule i j t t' s _ _ ⟨.int (g i j),H,I.tok _,⟨_,rfl⟩,q⟩
theorem TX {f:Value→Value→Sem Value}{g:Int→Int→Bool}
 (rule:∀(i j:Int)(t u:Tok)(s:Shared)(Q:Value→Shared→Prop)(E:Value→Shared→Prop),Q (.bool (g i j)) s→wpAny (model X.prog X.w) X.A (f (.int i t) (.int j u)) Q E s) :
 OpR X f (rI0 fun i j=>.bl (g i j)):=by
 intro pins s σ H x y v u Q I rx ry h
 obtain⟨i,j,rfl,rfl,q⟩:=h
 obtain⟨t,rfl⟩:=rx
 obtain⟨t',rfl⟩:=ry
 exact rule i j t t' s _ _ ⟨.bl (g i j),H,I,rfl,q⟩
def VA (i j:Int):Prop:=0<j∧j<1073741824
def V0 (i j:Int):Prop:=j≠0∧j.natAbs<1073741824
def TU (i j:Int):Prop:=0≤j∧j≤1000000∧i.natAbs<2^64
def TC (i j:Int):Prop:=(-(2^64)<i∧i<2^64)∨(-(2^64)<j∧j<2^64)
theorem TC.ok {i j:Int} (h:TC i j):IntMulOk i j:=by
 rcases h with⟨h1,h2⟩|⟨h1,h2⟩
 ·exact .of_left (intBits_le_64 h1 h2)
 ·exact .of_right (intBits_le_64 h1 h2)
theorem Fe (k:Nat):(0:Int)≤2^k:=by
 rw[two_pow_cast]
 exact Int.natCast_nonneg _
theorem Oo:OpR X (binaryOp .Add) (rI0 fun i j=>.int (i+j)):=L6 fun _ _ _ _ _ _ _ q=>add_int q
theorem RN:OpR X (binaryOp .Sub) (rI0 fun i j=>.int (i-j)):=L6 fun _ _ _ _ _ _ _ q=>sub_int q
theorem Xs:OpR X (binaryOp .Mult) (rI TC fun i j=>.int (i*j)):=opI fun _ _ _ _ _ _ _ hc q=>mul_int q hc.ok
theorem VD:OpR X (binaryOp .FloorDiv) (rI VA fun i j=>.int (i/j)):=opI fun i j _ _ _ _ _ hc q=>by
 have h1:(0:Int)<j:=hc.1
 have h2:j<1073741824:=hc.2
 exact floordiv_int () (by rw[qAZ i ()];exact q) (.inl (PyProof.noPylong_small ()))
theorem TY:OpR X (binaryOp .FloorDiv) (rI V0 fun i j=>.int (i.fdiv j)):=opI fun _ _ _ _ _ _ _ hc q=>floordiv_int hc.1 q (.inl (PyProof.noPylong_small hc.2))
theorem WQ:OpR X (binaryOp .Mod) (rI (fun _ j=>0<j) fun i j=>.int (i%j)):=opI fun i j _ _ _ _ _ hc q=>by
 have h1:(0:Int)<j:=hc
 exact mod_int' () (by rw[qBI i ()];exact q)
theorem PX:OpR X (binaryOp .Mod) (rI (fun _ j=>j≠0) fun i j=>.int (i.fmod j)):=opI fun _ _ _ _ _ _ _ hc q=>mod_int' hc q
theorem Sg:OpR X (binaryOp .Pow) (rI TU fun i j=>.int (i^j.toNat)):=opI fun _ _ _ _ _ _ _ hc q=>pow_int_small hc.1 hc.2.1 hc.2.2 q
theorem W2:OpR X (binaryOp .LShift) (rI TU fun i j=>.int (i*2^j.toNat)):=opI fun _ _ _ _ _ _ _ hc q=>lshift_int_small hc.1 hc.2.1 hc.2.2 q
theorem Wn:OpR X (binaryOp .RShift) (rI (fun _ j=>0≤j) fun i j=>.int (i/2^j.toNat)):=opI fun i j _ _ _ _ _ hc q =>
 rshift_int hc (by rw[qAZ i (Fe _)];exact q)
theorem Xh:OpR X (binaryOp .BitAnd) (rI0 fun i j=>.int (Builtin.bitAnd i j)):=L6 fun _ _ _ _ _ _ _ q=>and_int q
theorem X5:OpR X (binaryOp .BitOr) (rI0 fun i j=>.int (Builtin.bitOr i j)):=L6 fun _ _ _ _ _ _ _ q=>or_int q
theorem WW:OpR X (binaryOp .BitXor) (rI0 fun i j=>.int (Builtin.bitXor i j)):=L6 fun _ _ _ _ _ _ _ q=>xor_int q
theorem UK:OpR X (inplaceOp .Add) (rI0 fun i j=>.int (i+j)):=L6 fun _ _ _ _ _ _ _ q=>iadd_int q
theorem V4:OpR X (inplaceOp .Sub) (rI0 fun i j=>.int (i-j)):=L6 fun _ _ _ _ _ _ _ q=>isub_int q
theorem UA:OpR X (inplaceOp .Mult) (rI TC fun i j=>.int (i*j)):=opI fun _ _ _ _ _ _ _ hc q=>imul_int q hc.ok
theorem S6:OpR X (inplaceOp .FloorDiv) (rI VA fun i j=>.int (i/j)):=opI fun i j _ _ _ _ _ hc q=>by
 have h1:(0:Int)<j:=hc.1
 have h2:j<1073741824:=hc.2
 exact ifloordiv_int () (by rw[qAZ i ()];exact q) (.inl (PyProof.noPylong_small ()))
theorem VB:OpR X (inplaceOp .Mod) (rI (fun _ j=>0<j) fun i j=>.int (i%j)):=opI fun i j _ _ _ _ _ hc q=>by
 have h1:(0:Int)<j:=hc
 exact imod_int () (by rw[qBI i ()];exact q)
theorem Uo:OpR X (inplaceOp .LShift) (rI TU fun i j=>.int (i*2^j.toNat)):=opI fun _ _ _ _ _ _ _ hc q=>ilshift_int_small hc.1 hc.2.1 hc.2.2 q
theorem UZ:OpR X (inplaceOp .RShift) (rI (fun _ j=>0≤j) fun i j=>.int (i/2^j.toNat)):=opI fun i j _ _ _ _ _ hc q =>
 irshift_int hc (by rw[qAZ i (Fe _)];exact q)
theorem Vx:OpR X (inplaceOp .BitAnd) (rI0 fun i j=>.int (Builtin.bitAnd i j)):=L6 fun _ _ _ _ _ _ _ q=>iand_int q
theorem Wd:OpR X (inplaceOp .BitOr) (rI0 fun i j=>.int (Builtin.bitOr i j)):=L6 fun _ _ _ _ _ _ _ q=>ior_int q
theorem UD:OpR X (inplaceOp .BitXor) (rI0 fun i j=>.int (Builtin.bitXor i j)):=L6 fun _ _ _ _ _ _ _ q=>ixor_int q
theorem unI {f:Value→Sem Value}{g:Int→Int}
 (rule:∀(i:Int)(t:Tok)(s:Shared)(Q:Value→Shared→Prop)(E:Value→Shared→Prop),Q (.int (g i) s.toks) { s with toks:=s.toks+1 }→wpAny (model X.prog X.w) X.A (f (.int i t)) Q E s) :
 UnR X f (rU fun i=>.int (g i)):=by
 intro pins s σ H x v Q I rx h
 obtain⟨i,rfl,q⟩:=h
 obtain⟨t,rfl⟩:=rx
 exact rule i t s _ _ ⟨.int (g i),H,I.tok _,⟨_,rfl⟩,q⟩
theorem Ry:UnR X (unaryOp .USub) (rU fun i=>.int (-i)):=unI fun _ _ _ _ _ q=>neg_int q
theorem XI:UnR X (unaryOp .Invert) (rU fun i=>.int (Builtin.bitNot i)):=unI fun _ _ _ _ _ q=>invert_int q
theorem RW:OpR X (binaryOp .Add) (fun x y H Q=>∃i k,x=.int i∧y=.bl k∧Q (.int (i+b2i k)) H):=by
 intro pins s σ H x y v u Q I rx ry h
 obtain⟨i,k,rfl,rfl,q⟩:=h
 obtain⟨t,rfl⟩:=rx
 cases ry
 exact add_int_bool ⟨.int (i+b2i k),H,I.tok _,⟨_,rfl⟩,q⟩
end
def Wt:V→V→Bool
 |.non,.non=>true|.non,.int _=>true|.int _,.non=>true|.non,.bl _=>true|.bl _,.non=>true|.non,.str _=>true|.str _,.non=>true
 |.int _,.int _=>true|.bl _,.bl _=>true|.str _,.str _=>true|.byt _,.byt _=>true
 |.int _,.str _=>true|.str _,.int _=>true|.bl _,.str _=>true|.str _,.bl _=>true
 |_,_=>false
def rEq:R2:=fun x y H Q=>Wt x y=true∧Q (.bl (decide (x=y))) H
def rNe:R2:=fun x y H Q=>Wt x y=true∧Q (.bl (!decide (x=y))) H
theorem Ka {i j:Int}:decide (V.int i=V.int j)=(i==j):=by
 rw[qAW]
 simp
theorem Ot {i j:Bool}:decide (V.bl i=V.bl j)=(i==j):=by
 rw[qAW]
 simp
theorem Kb {i j:Str}:decide (V.str i=V.str j)=(i==j):=by
 rw[qAW]
 simp
theorem Kt {i j:Array UInt8}:decide (V.byt i=V.byt j)=(i.toList==j.toList):=by
 rw[qAW]
 cases i
 cases j
 simp
section
variable {X:Cx}{a b c:Expr}{ta tb tc:TE}{pos:Pos}
theorem Ax {pins:List (Addr×Obj)}{σ:St}{H:Hp}{s:Shared}{Q:VK}{k k':Bool} (I:Inv X pins σ H s) (q:Q (.bl k) H) (e:k=k'):EP X pins σ Q (.bool k') s:=by
 subst e
 exact⟨.bl k,H,I,rfl,q⟩
theorem UO:OpR X (compareOp .Eq) rEq:=by
 intro pins s σ H x y v u Q I rx ry h
 obtain⟨hs,q⟩:=h
 cases x with
 |non =>
  cases rx
  cases y with
  |non=>cases ry;exact PySem.EqNone.eq_none_none (Ax I q (by simp))
  |bl j=>cases ry;exact PySem.EqNone.eq_none_bool (Ax I q (by simp))
  |int j=>obtain⟨t',rfl⟩:=ry;exact PySem.EqNone.eq_none_int (Ax I q (by simp))
  |str j=>obtain⟨t',rfl⟩:=ry;exact PySem.EqNone.eq_none_str (Ax I q (by simp))
  |_=>exact absurd (show false=true from hs) qAe
 |bl i =>
  cases rx
  cases y with
  |non=>cases ry;exact PySem.EqNone.eq_bool_none (Ax I q (by simp))
  |bl j=>cases ry;exact eq_bool (Ax I q Ot)
  |str j=>obtain⟨t',rfl⟩:=ry;exact PySem.EqMixed.eq_bool_str (Ax I q (by simp))
  |_=>exact absurd (show false=true from hs) qAe
 |int i =>
  obtain⟨t,rfl⟩:=rx
  cases y with
  |non=>cases ry;exact PySem.EqNone.eq_int_none (Ax I q (by simp))
  |int j=>obtain⟨t',rfl⟩:=ry;exact eq_int (Ax I q Ka)
  |str j=>obtain⟨t',rfl⟩:=ry;exact PySem.EqMixed.eq_int_str (Ax I q (by simp))
  |_=>exact absurd (show false=true from hs) qAe
 |str i =>
  obtain⟨t,rfl⟩:=rx
  cases y with
  |non=>cases ry;exact PySem.EqNone.eq_str_none (Ax I q (by simp))
  |bl j=>cases ry;exact PySem.EqMixed.eq_str_bool (Ax I q (by simp))
  |int j=>obtain⟨t',rfl⟩:=ry;exact PySem.EqMixed.eq_str_int (Ax I q (by simp))
  |str j=>obtain⟨t',rfl⟩:=ry;exact eq_str (Ax I q Kb)
  |_=>exact absurd (show false=true from hs) qAe
 |byt i =>
  obtain⟨t,rfl⟩:=rx
  cases y with
  |byt j=>obtain⟨t',rfl⟩:=ry;exact PySem.W.eq_bytes (Ax I q Kt)
  |_=>exact absurd (show false=true from hs) qAe
 |_=>cases y<;>exact absurd (show false=true from hs) qAe
theorem Ue:OpR X (compareOp .NotEq) rNe:=by
 intro pins s σ H x y v u Q I rx ry h
 obtain⟨hs,q⟩:=h
 cases x with
 |non =>
  cases rx
  cases y with
  |non=>cases ry;exact PySem.EqNone.ne_none_none (Ax I q (by simp))
  |bl j=>cases ry;exact PySem.EqNone.ne_none_bool (Ax I q (by simp))
  |int j=>obtain⟨t',rfl⟩:=ry;exact PySem.EqNone.ne_none_int (Ax I q (by simp))
  |str j=>obtain⟨t',rfl⟩:=ry;exact PySem.EqNone.ne_none_str (Ax I q (by simp))
  |_=>exact absurd (show false=true from hs) qAe
 |bl i =>
  cases rx
  cases y with
  |non=>cases ry;exact PySem.EqNone.ne_bool_none (Ax I q (by simp))
  |bl j=>cases ry;exact ne_bool (Ax I q (congrArg not Ot))
  |str j=>obtain⟨t',rfl⟩:=ry;exact PySem.EqMixed.ne_bool_str (Ax I q (by simp))
  |_=>exact absurd (show false=true from hs) qAe
 |int i =>
  obtain⟨t,rfl⟩:=rx
  cases y with
  |non=>cases ry;exact PySem.EqNone.ne_int_none (Ax I q (by simp))
  |int j=>obtain⟨t',rfl⟩:=ry;exact ne_int (Ax I q (congrArg not Ka))
  |str j=>obtain⟨t',rfl⟩:=ry;exact PySem.EqMixed.ne_int_str (Ax I q (by simp))
  |_=>exact absurd (show false=true from hs) qAe
 |str i =>
  obtain⟨t,rfl⟩:=rx
  cases y with
  |non=>cases ry;exact PySem.EqNone.ne_str_none (Ax I q (by simp))
  |bl j=>cases ry;exact PySem.EqMixed.ne_str_bool (Ax I q (by simp))
  |int j=>obtain⟨t',rfl⟩:=ry;exact PySem.EqMixed.ne_str_int (Ax I q (by simp))
  |str j=>obtain⟨t',rfl⟩:=ry;exact ne_str (Ax I q (congrArg not Kb))
  |_=>exact absurd (show false=true from hs) qAe
 |byt i =>
  obtain⟨t,rfl⟩:=rx
  cases y with
  |byt j=>obtain⟨t',rfl⟩:=ry;exact PySem.W.ne_bytes (Ax I q (congrArg not Kt))
  |_=>exact absurd (show false=true from hs) qAe
 |_=>cases y<;>exact absurd (show false=true from hs) qAe
theorem V7:OpR X (compareOp .Lt) (rI0 fun i j=>.bl (decide (i<j))):=TX fun _ _ _ _ _ _ _ q=>lt_int q
theorem V6:OpR X (compareOp .LtE) (rI0 fun i j=>.bl (decide (i≤j))):=TX fun _ _ _ _ _ _ _ q=>le_int q
theorem Vp:OpR X (compareOp .Gt) (rI0 fun i j=>.bl (decide (j<i))):=TX fun _ _ _ _ _ _ _ q=>gt_int q
theorem T6:OpR X (compareOp .GtE) (rI0 fun i j=>.bl (decide (j≤i))):=TX fun _ _ _ _ _ _ _ q=>ge_int q
theorem SX:OpR X (compareOp .Lt) (fun x y H Q=>∃i j,x=.str i∧y=.str j∧Q (.bl (decide (i.cps.toList<j.cps.toList))) H):=by
 intro pins s σ H x y v u Q I rx ry h
 obtain⟨i,j,rfl,rfl,q⟩:=h
 obtain⟨t,rfl⟩:=rx
 obtain⟨t',rfl⟩:=ry
 exact lt_str (Ax I q rfl)
theorem LY:OpR X (compareOp .In) (fun x y H Q=>∃i j,x=.str i∧y=.str j∧Q (.bl (!(Builtin.Str.occurrences j i 0 j.length 1).isEmpty)) H):=by
 intro pins s σ H x y v u Q I rx ry h
 obtain⟨i,j,rfl,rfl,q⟩:=h
 obtain⟨t,rfl⟩:=rx
 obtain⟨t',rfl⟩:=ry
 exact in_str (Ax I q rfl)
theorem RG:OpR X (compareOp .Is) (fun x y H Q=>y=.non∧Q (.bl (decide (x=.non))) H):=by
 intro pins s σ H x y v u Q I rx ry h
 obtain⟨rfl,q⟩:=h
 cases ry
 refine is_none_gen (Ax I q ?_)
 cases x<;>first
  |(cases rx;rfl)
  |(obtain⟨t,rfl⟩:=rx;rfl)
theorem OS:OpR X (compareOp .IsNot) (fun x y H Q=>y=.non∧Q (.bl (!decide (x=.non))) H):=by
 intro pins s σ H x y v u Q I rx ry h
 obtain⟨rfl,q⟩:=h
 cases ry
 refine isnot_none_gen (Ax I q ?_)
 cases x<;>first
  |(cases rx;rfl)
  |(obtain⟨t,rfl⟩:=rx;rfl)
theorem GJ:OpR X (compareOp .NotIn) (fun x y H Q=>∃i j,x=.str i∧y=.str j∧Q (.bl (!(!(Builtin.Str.occurrences j i 0 j.length 1).isEmpty))) H):=by
 intro pins s σ H x y v u Q I rx ry h
 obtain⟨i,j,rfl,rfl,q⟩:=h
 obtain⟨t,rfl⟩:=rx
 obtain⟨t',rfl⟩:=ry
 exact notIn_str (Ax I q rfl)
def K8:HO→Bool
 |.lst _=>true
 |.ins _ _ _=>true
 |_=>false
theorem Di {pins:List (Addr×Obj)}{s:Shared}{σ:St}{H:Hp}{a:Addr}{o:HO} (I:Inv X pins σ H s) (h:H a=some o) (p:K8 o=true):∃ob,s.heap.get? a=some ob∧ob.cls≠.type "tuple":=by
 cases o with
 |lst xs =>
  obtain⟨_,its,n,_,e⟩:xs.length≤sizeLine∧∃(its:List Value)(n:Nat),AA xs its∧s.heap.get? a=some { cls:=.type "list",data:=.seq its.toArray n }:=I.hok a _ h
  exact⟨_,e,(by show Value.type "list"≠.type "tuple";decide +kernel)⟩
 |ins C dx fs =>
  have x:=I.hok a _ h
  obtain⟨_,_,_,e,_⟩:=x
  exact⟨_,e,(by show Value.ref C≠.type "tuple";exact fun z=>by cases z)⟩
 |_=>exact absurd (show false=true from p) qAe
theorem Su:OpR X (compareOp .Is) (fun x y H Q=>∃a b oa ob,x=.ref a∧y=.ref b∧H a=some oa∧K8 oa=true∧H b=some ob∧K8 ob=true∧Q (.bl (decide (a=b))) H):=by
 intro pins s σ H x y v u Q I rx ry h
 obtain⟨a,b,oa,ob,rfl,rfl,ha,pa,hb,pb,q⟩:=h
 cases rx
 cases ry
 obtain⟨o1,e1,n1⟩:=Di I ha pa
 obtain⟨o2,e2,_⟩:=Di I hb pb
 by_cases z:a=b
 ·subst z
  exact wpAny_is_ref_self (Ax I q (by simp))
 ·exact wpAny_is_ref_other z e1 e2 n1 (Ax I q (by simp[z]))
theorem Ol:OpR X (compareOp .IsNot) (fun x y H Q=>∃a b oa ob,x=.ref a∧y=.ref b∧H a=some oa∧K8 oa=true∧H b=some ob∧K8 ob=true∧Q (.bl (!decide (a=b))) H):=by
 intro pins s σ H x y v u Q I rx ry h
 obtain⟨a,b,oa,ob,rfl,rfl,ha,pa,hb,pb,q⟩:=h
 cases rx
 cases ry
 obtain⟨o1,e1,n1⟩:=Di I ha pa
 obtain⟨o2,e2,_⟩:=Di I hb pb
 by_cases z:a=b
 ·subst z
  exact wpAny_isNot_ref_self (Ax I q (by simp))
 ·exact wpAny_isNot_ref_other z e1 e2 n1 (Ax I q (by simp[z]))
theorem OpR.or {f:Value→Value→Sem Value}{r r':R2} (h:OpR X f r) (h':OpR X f r'):OpR X f (fun x y H Q=>r x y H Q∨r' x y H Q):=by
 intro pins s σ H x y v u Q I rx ry q
 rcases q with q|q
 ·exact h pins s σ H x y v u Q I rx ry q
 ·exact h' pins s σ H x y v u Q I rx ry q
theorem Em (b:Expr){op:CmpOp} (h:op≠.In:=by decide) (h2:op≠.NotIn:=by decide):behindInMarks op b=false:=by
 have e1:(op==CmpOp.In)=false:=by cases op<;>first|rfl|exact absurd rfl h
 have e2:(op==CmpOp.NotIn)=false:=by cases op<;>first|rfl|exact absurd rfl h2
 cases b<;>simp[behindInMarks,e1,e2]
theorem Ip {op:CmpOp}{r:R2} (ho:OpR X (compareOp op) r) (ha:PE X a ta) (hb:PE X b tb) (hm:behindInMarks op b=false):PE X (.Compare a [op] [b] pos) (tOp r ta tb):=by
 intro pins s σ H Q I h
 exact wpAny_Compare1 (QF ha hb I h fun v u s2 x y H2 I2 rx ry q=>ho pins s2 σ H2 x y v u Q I2 rx ry q) hm
def SA (t:TE):TT:=fun σ H Q=>t σ H fun x H'=>∃k,x=.bl k∧Q k H'
theorem HH {op:CmpOp}{r:R2} (ho:OpR X (compareOp op) r) (ha:PE X a ta) (hb:PE X b tb) (hm:behindInMarks op b=false):PT X (.Compare a [op] [b] pos) (SA (tOp r ta tb)):=by
 intro pins s σ H Q I h
 refine wpAny_isTrue_Compare1 (thn (ha pins s σ H _ I h) fun v s1 ⟨x,H1,I1,r1,q1⟩=>thn (hb pins s1 σ H1 _ I1 q1) fun u s2 ⟨y,H2,I2,r2,q2⟩ =>
  thn (ho pins s2 σ H2 x y v u _ I2 r1 r2 q2) fun c s3 ⟨z,H3,I3,r3,k,e,q3⟩=>?_) hm
 subst e
 cases r3
 exact wpAny_truthy_bool ⟨H3,I3,q3⟩
def NK (r r':R2)(ta tb tc:TE):TE:=fun σ H Q=>ta σ H fun x H1=>tb σ H1 fun y H2=>r x y H2 fun z H3=>∃k,z=.bl k ∧
 (if k=true then tc σ H3 fun w' H4=>r' y w' H4 Q else Q (.bl false) H3)
theorem Tw {op op':CmpOp}{r r':R2} (ho:OpR X (compareOp op) r) (ho':OpR X (compareOp op') r') (ha:PE X a ta) (hb:PE X b tb) (hc:PE X c tc)
 (hm:lastMarks [op,op'] [b,c]=false:=by with_unfolding_all rfl):PE X (.Compare a [op,op'] [b,c] pos) (NK r r' ta tb tc):=by
 intro pins s σ H Q I h
 refine Compare_chain (thn (ha pins s σ H _ I h) fun v s1 ⟨x,H1,I1,r1,q1⟩=>chain_link (thn (hb pins s1 σ H1 _ I1 q1) fun u s2 ⟨y,H2,I2,r2,q2⟩ =>
  thn (ho pins s2 σ H2 x y v u _ I2 r1 r2 q2) fun d s3 ⟨z,H3,I3,r3,k,e,q3⟩=>?_)) hm
 subst e
 cases r3
 refine wpAny_truthy_bool ?_
 cases k with
 |false=>exact ite_ff ⟨.bl false,H3,I3,rfl,q3⟩
 |true=>exact ite_tt (chain_last (thn (hc pins s3 σ H3 _ I3 q3) fun w' s4 ⟨z',H4,I4,r4,q4⟩=>ho' pins s4 σ H4 y z' u w' Q I4 r2 r4 q4))
theorem TR {op op':CmpOp}{r r':R2} (ho:OpR X (compareOp op) r) (ho':OpR X (compareOp op') r') (ha:PE X a ta) (hb:PE X b tb) (hc:PE X c tc)
 (hm:lastMarks [op,op'] [b,c]=false:=by with_unfolding_all rfl):PT X (.Compare a [op,op'] [b,c] pos) (SA (NK r r' ta tb tc)):=by
 intro pins s σ H Q I h
 refine isTrue_chain (thn (ha pins s σ H _ I h) fun v s1 ⟨x,H1,I1,r1,q1⟩=>test_link (thn (hb pins s1 σ H1 _ I1 q1) fun u s2 ⟨y,H2,I2,r2,q2⟩ =>
  thn (ho pins s2 σ H2 x y v u _ I2 r1 r2 q2) fun d s3 ⟨z,H3,I3,r3,k,e,q3⟩=>?_)) hm
 subst e
 cases r3
 refine wpAny_truthy_bool ?_
 cases k with
 |false =>
  obtain⟨k',e',q'⟩:=q3
  cases e'
  exact ite_ff ⟨H3,I3,q'⟩
 |true =>
  refine ite_tt (test_last (thn (hc pins s3 σ H3 _ I3 q3) fun w' s4 ⟨z',H4,I4,r4,q4⟩=>thn (ho' pins s4 σ H4 y z' u w' _ I4 r2 r4 q4) fun d' s5 hh=>?_))
  obtain⟨z2,H5,I5,r5,k2,e2,q5⟩:=hh
  subst e2
  cases r5
  exact wpAny_truthy_bool ⟨H5,I5,q5⟩
def Xp (K:PySem.W.Frag)(x:V)(H:Hp)(k:Bool):Prop :=
 match x with
 |.non=>k=false
 |.bl b=>k=b
 |.int i=>k=(i != 0)
 |.str y=>y.length≤sizeLine∧k=((y.length:Int) != 0)
 |.byt y=>y.size≤sizeLine∧k=((y.size:Int) != 0)
 |.ref p=>(∃xs,SqL K H p xs∧k=!xs.isEmpty)∨(∃xs,SqT K H p xs∧k=!xs.isEmpty)∨∃kvs,H p=some (.dK kvs)∧k=!kvs.isEmpty
 |_=>False
theorem JW {κ:Type}{kvs:List (κ×V)}{vs:List (κ×Value)} (r:KV kvs vs):(!vs.isEmpty)=!kvs.isEmpty:=by
 cases r<;>rfl
theorem EY {xs:List V}{its:List Value} (r:AA xs its):(!its.toArray.isEmpty)=!xs.isEmpty:=by
 cases r<;>simp
theorem DQ:(sizeLine:Nat)<2^63:=by rw[sizeLine_eq];decide
theorem Sv:Zh X (fun x H Q=>∃k,Xp X.K x H k∧Q k H):=by
 intro pins s σ H x v Q I rx h
 obtain⟨k,e,q⟩:=h
 have hl:=DQ
 have hs:sizeLine=16777216:=sizeLine_eq
 cases x with
 |non =>
  cases rx
  have e':k=false:=e
  subst e'
  exact truthy_none ⟨H,I,q⟩
 |bl b =>
  cases rx
  have e':k=b:=e
  subst e'
  exact wpAny_truthy_bool ⟨H,I,q⟩
 |int i =>
  obtain⟨t,rfl⟩:=rx
  have e':k=(i != 0):=e
  subst e'
  exact PySem.P.truthy_int ⟨H,I,q⟩
 |str y =>
  obtain⟨t,rfl⟩:=rx
  obtain⟨hy,e'⟩:y.length≤sizeLine∧k=((y.length:Int) != 0):=e
  subst e'
  exact PySem.P.truthy_str () ⟨H,I.tok _,q⟩
 |byt y =>
  obtain⟨t,rfl⟩:=rx
  obtain⟨hy,e'⟩:y.size≤sizeLine∧k=((y.size:Int) != 0):=e
  subst e'
  exact PySem.W.truthy_bytes () ⟨H,I.tok _,q⟩
 |ref p =>
  cases rx
  have e':(∃xs,SqL X.K H p xs∧k=!xs.isEmpty)∨(∃xs,SqT X.K H p xs∧k=!xs.isEmpty)∨∃kvs,H p=some (.dK kvs)∧k=!kvs.isEmpty:=e
  rcases e' with⟨xs,hx,e'⟩|⟨xs,hx,e'⟩|⟨kvs,hx,e'⟩
  ·subst e'
   obtain⟨its,r,pl,hz⟩:=I.list hx
   have hlen:=r.length
   exact wpAny_truthy_list pl.isList (by simp only[qAk];omega) ⟨H,I.tok _,by rw[EY r];exact q⟩
  ·subst e'
   obtain⟨its,r,pl,hz⟩:=I.tuple hx
   have hlen:=r.length
   exact truthy_tuple pl (by simp only[qAk];omega) ⟨H,I.tok _,by rw[EY r];exact q⟩
  ·subst e'
   obtain⟨hz,hS,vs,r,m⟩:kvs.length≤sizeLine∧(p==sysModules)=false∧∃vs,KV kvs vs∧s.heap.DictOf (Cb X.prog X.w) p vs:=I.hok p _ hx
   have hlen:kvs.length=vs.length:=Paired.length r
   exact wpAny_truthy_dict hS m () ⟨H,I.tok _,by rw[JW r];exact q⟩
 |_=>exact(show False from e).elim
theorem Tc (ha:PE X a ta)(he:∀whole,isTrue a X.env whole=(do let v ←whole;standAt a.pos;holding [v] (truthy v))) :
 PT X a (fun σ H Q=>ta σ H fun x H'=>∃k,Xp X.K x H' k∧Q k H'):=by
 intro pins s σ H Q I h
 exact isTrue_plain (thn (ha pins s σ H _ I h) fun v s1 ⟨x,H1,I1,r1,q1⟩=>Sv pins s1 σ H1 x v Q I1 r1 q1) (he _)
theorem Wc {x:List UInt8}{k:Nat}:PE X (.Constant (.bytes x) k pos) (fun _ H Q=>Q (.byt x.toArray) H):=fun _ _ _ H _ I h=>PySem.W.Constant_bytes ⟨.byt x.toArray,H,I.tok _,⟨_,rfl⟩,h⟩
theorem JQ:OpR X (binaryOp .Add) (fun x y H Q=>∃i j,x=.str i∧y=.str j∧i.length+j.length≤sizeLine∧Q (.str (i++j)) H):=by
 intro pins s σ H x y v u Q I rx ry h
 obtain⟨i,j,rfl,rfl,hz,q⟩:=h
 obtain⟨t,rfl⟩:=rx
 obtain⟨t',rfl⟩:=ry
 exact add_str (fun t' tk=>⟨.str (i++j),H,I.tok _,⟨_,rfl⟩,q⟩) hz
theorem O4:OpR X (inplaceOp .Add) (fun x y H Q=>∃i j,x=.str i∧y=.str j∧i.length+j.length≤sizeLine∧Q (.str (i++j)) H):=by
 intro pins s σ H x y v u Q I rx ry h
 obtain⟨i,j,rfl,rfl,hz,q⟩:=h
 obtain⟨t,rfl⟩:=rx
 obtain⟨t',rfl⟩:=ry
 exact iadd_str (fun t' tk=>⟨.str (i++j),H,I.tok _,⟨_,rfl⟩,q⟩) hz
theorem QB:OpR X (binaryOp .Add) (fun x y H Q=>∃i j,x=.byt i∧y=.byt j∧i.size+j.size≤16777216∧Q (.byt (i++j)) H):=by
 intro pins s σ H x y v u Q I rx ry h
 obtain⟨i,j,rfl,rfl,hz,q⟩:=h
 obtain⟨t,rfl⟩:=rx
 obtain⟨t',rfl⟩:=ry
 exact PySem.W.KBy.add_bytes hz (fun t' tk=>⟨.byt (i++j),H,I.tok _,⟨_,rfl⟩,q⟩)
def IJ (b:Expr):Prop:=∀o i,subscripted b false o i=operate [o,i] (getItem o i)
theorem PL (ha:PE X a ta)(hb:PE X b tb)(hs:IJ b) :
 PE X (.Subscript a b pos) (tOp (fun x y H Q=>∃z i c,x=.str z∧y=.int i∧0≤i∧i<2^63∧i<z.length∧z.cps[i.toNat]? = some c∧Q (.str ⟨#[c]⟩) H) ta tb):=by
 intro pins s σ H Q I h
 refine Subscript_ (QF ha hb I h fun v u s2 x y H2 I2 rx ry q=>?_)
 obtain⟨z,i,c,rfl,rfl,h0,h63,h1,hc,q⟩:=q
 obtain⟨t,rfl⟩:=rx
 obtain⟨t',rfl⟩:=ry
 have e:seqIndex? i z.length=some i.toNat:=PySem.StrLaws.seqIndex_nonneg h0 h1
 exact tail_any (typeIs_str s2 z t) slot_str_getitem.lookup (getItem_str (c:=c) (by
  have e1:decide (i < -(2^63:Int))=false:=decide_eq_false ()
  have e2:decide (i≥2^63)=false:=decide_eq_false ()
  rw[e1,e2]<;>rfl) (by rw[e];exact hc) ⟨.str ⟨#[c]⟩,H2,I2.tok _,⟨_,rfl⟩,q⟩) (hs _ _)
theorem O7 (ha:PE X a ta)(hb:PE X b tb)(hs:IJ b) :
 PE X (.Subscript a b pos) (tOp (fun x y H Q=>∃(z:List UInt8)(i:Int),x=.byt z.toArray∧y=.int i∧z.length≤sizeLine∧0≤i∧i<z.length∧Q (.int ((z.getD i.toNat 0).toNat:Nat)) H) ta tb):=by
 intro pins s σ H Q I h
 refine Subscript_ (QF ha hb I h fun v u s2 x y H2 I2 rx ry q=>?_)
 obtain⟨z,i,rfl,rfl,hz,h0,h1,q⟩:=q
 obtain⟨t,rfl⟩:=rx
 obtain⟨t',rfl⟩:=ry
 have hl:sizeLine=16777216:=sizeLine_eq
 exact tail_any (PySem.W.typeIs_bytes s2 z.toArray t) PySem.W.FB.slot_bytes_getitem.lookup (PySem.W.getItem_bytes () h0 h1 ⟨.int ((z.getD i.toNat 0).toNat:Nat),H2,I2.tok _,⟨_,rfl⟩,q⟩) (hs _ _)
theorem Bd {x:V}{us:List Value} (r:AA [x] us):∃u,us=[u]∧AN x u:=by
 cases r with
 |cons r1 r2=>cases r2;exact⟨_,rfl,r1⟩
theorem Jz {x y:V}{us:List Value} (r:AA [x,y] us):∃u w',us=[u,w']∧AN x u∧AN y w':=by
 cases r with
 |cons r1 r2 =>
  cases r2 with
  |cons r3 r4=>cases r4;exact⟨_,_,rfl,r1,r3⟩
theorem MV:A7 X (.builtin "abs") (fun xs H Q=>∃i,xs=[.int i]∧Q (.int (if i<0 then -i else i)) H):=by
 intro pins s σ H xs us Q I r h
 obtain⟨i,rfl,q⟩:=h
 obtain⟨u,rfl,t,rfl⟩:=Bd r
 exact call_abs_int fun u tk=>⟨.int (if i<0 then -i else i),H,I.tok _,⟨_,rfl⟩,q⟩
theorem Lx (hc:X.calm=true):A7 X (.builtin "max") (fun xs H Q=>∃i j,xs=[.int i,.int j]∧Q (.int (if j>i then j else i)) H):=by
 intro pins s σ H xs us Q I r h
 obtain⟨i,j,rfl,q⟩:=h
 obtain⟨u,w',rfl,⟨t,rfl⟩,⟨t',rfl⟩⟩:=Jz r
 refine max_two_ints (I.ok.hd hc) fun h' tk k=>⟨_,H,I.kept k,?_,q⟩
 by_cases hj:j>i
 ·rw[if_pos hj,if_pos hj];exact⟨_,rfl⟩
 ·rw[if_neg hj,if_neg hj];exact⟨_,rfl⟩
theorem K3 (hc:X.calm=true):A7 X (.builtin "min") (fun xs H Q=>∃i j,xs=[.int i,.int j]∧Q (.int (if j<i then j else i)) H):=by
 intro pins s σ H xs us Q I r h
 obtain⟨i,j,rfl,q⟩:=h
 obtain⟨u,w',rfl,⟨t,rfl⟩,⟨t',rfl⟩⟩:=Jz r
 refine min_two_ints (I.ok.hd hc) fun h' tk k=>⟨_,H,I.kept k,?_,q⟩
 by_cases hj:j<i
 ·rw[if_pos hj,if_pos hj];exact⟨_,rfl⟩
 ·rw[if_neg hj,if_neg hj];exact⟨_,rfl⟩
theorem GO:A7 X (.type "int") (fun xs H Q=>(∃i,xs=[.int i]∧Q (.int i) H)∨∃k,xs=[.bl k]∧Q (.int (if k then 1 else 0)) H):=by
 intro pins s σ H xs us Q I r h
 rcases h with⟨i,rfl,q⟩|⟨k,rfl,q⟩
 ·obtain⟨u,rfl,t,rfl⟩:=Bd r
  exact call_int_int ⟨.int i,H,I,⟨_,rfl⟩,q⟩
 ·obtain⟨u,rfl,r1⟩:=Bd r
  cases r1
  exact call_int_bool ⟨.int (if k then 1 else 0),H,I.tok _,⟨_,rfl⟩,q⟩
theorem Qx:A7 X (.type "bool") (fun xs H Q=>(∃i,xs=[.int i]∧Q (.bl (i != 0)) H)∨∃k,xs=[.bl k]∧Q (.bl k) H):=by
 intro pins s σ H xs us Q I r h
 rcases h with⟨i,rfl,q⟩|⟨k,rfl,q⟩
 ·obtain⟨u,rfl,t,rfl⟩:=Bd r
  exact call_bool_int ⟨.bl (i != 0),H,I,rfl,q⟩
 ·obtain⟨u,rfl,r1⟩:=Bd r
  cases r1
  exact call_bool_bool ⟨.bl k,H,I,rfl,q⟩
theorem GZ:A7 X (.type "str") (fun xs H Q=>∃i,xs=[.int i]∧i.natAbs.log2<1920∧Q (.str (toString i)) H):=by
 intro pins s σ H xs us Q I r h
 obtain⟨i,rfl,hz,q⟩:=h
 obtain⟨u,rfl,t,rfl⟩:=Bd r
 exact PySem.P.str_of_int hz ⟨.str _,H,I.tok _,⟨_,rfl⟩,q⟩
theorem To:A7 X (.builtin "ord") (fun xs H Q=>∃x,xs=[.str x]∧x.length=1∧Q (.int (x.cps.getD 0 0:Nat)) H):=by
 intro pins s σ H xs us Q I r h
 obtain⟨x,rfl,hz,q⟩:=h
 obtain⟨u,rfl,t,rfl⟩:=Bd r
 exact ord_of_one hz ⟨.int _,H,I.tok _,⟨_,rfl⟩,q⟩
theorem TZ:A7 X (.builtin "chr") (fun xs H Q=>∃i,xs=[.int i]∧0≤i∧i≤1114111∧Q (.str ⟨#[i.toNat]⟩) H):=by
 intro pins s σ H xs us Q I r h
 obtain⟨i,rfl,h0,h1,q⟩:=h
 obtain⟨u,rfl,t,rfl⟩:=Bd r
 exact chr_of_range h0 h1 ⟨.str _,H,I.tok _,⟨_,rfl⟩,q⟩
def Yl (K:PySem.W.Frag)(x:V)(H:Hp)(n:Nat):Prop :=
 match x with
 |.str y=>y.length≤sizeLine∧n=y.length
 |.byt y=>y.size≤sizeLine∧n=y.size
 |.ref p=>(∃xs,SqL K H p xs∧n=xs.length)∨∃xs,SqT K H p xs∧n=xs.length
 |_=>False
theorem Tx:A7 X (.builtin "len") (fun xs H Q=>∃x n,xs=[x]∧Yl X.K x H n∧Q (.int n) H):=by
 intro pins s σ H xs us Q I r h
 obtain⟨x,n,rfl,e,q⟩:=h
 obtain⟨u,rfl,rx⟩:=Bd r
 have hl:=DQ
 have hs:sizeLine=16777216:=sizeLine_eq
 cases x with
 |str y =>
  obtain⟨t,rfl⟩:=rx
  obtain⟨hy,e'⟩:y.length≤sizeLine∧n=y.length:=e
  subst e'
  exact len_str () ⟨.int _,H,I.tok _,⟨_,rfl⟩,q⟩
 |byt y =>
  obtain⟨t,rfl⟩:=rx
  obtain⟨hy,e'⟩:y.size≤sizeLine∧n=y.size:=e
  subst e'
  exact PySem.W.len_bytes () ⟨.int _,H,I.tok _,⟨_,rfl⟩,q⟩
 |ref p =>
  cases rx
  have e':(∃xs,SqL X.K H p xs∧n=xs.length)∨∃xs,SqT X.K H p xs∧n=xs.length:=e
  rcases e' with⟨xs,hx,e'⟩|⟨xs,hx,e'⟩
  ·subst e'
   obtain⟨its,r',pl,hz⟩:=I.list hx
   have hlen:=r'.length
   exact Calls.call_len_list pl.isList (by simp only[qAk];omega) ⟨.int xs.length,H,I.tok _,⟨_,by simp only[qAk];rw[hlen]⟩,q⟩
  ·subst e'
   obtain⟨its,r',pl,hz⟩:=I.tuple hx
   have hlen:=r'.length
   exact len_tuple pl (by simp only[qAk];omega) ⟨.int xs.length,H,I.tok _,⟨_,by simp only[qAk];rw[hlen]⟩,q⟩
 |_=>exact(show False from e).elim
theorem P7:A7 X (.builtin "divmod") (fun xs H Q=>∃i j,xs=[.int i,.int j]∧VA i j∧∀p,H p=none→Q (.ref p) (upd H p (.tup [.int (i/j),.int (i%j)]))):=by
 intro pins s σ H xs us Q I r h
 obtain⟨i,j,rfl,⟨h1,h2⟩,q⟩:=h
 obtain⟨u,w',rfl,⟨t,rfl⟩,⟨t',rfl⟩⟩:=Jz r
 refine divmod_int () ?_ (.inl (PyProof.noPylong_small ()))
 rw[qAZ i (),qBI i ()]
 have hn:H s.heap.objs.size=none:=I.hok.fresh (qAg _)
 refine⟨.ref s.heap.objs.size,_,?_,rfl,q _ hn⟩
 refine I.laid (fun b o e=>qAb _ e) (qAg _) ⟨by simp only[qAd,qAx];rw[sizeLine_eq];decide,[.int (i/j) s.toks,.int (i%j) (s.toks+1)],.cons ⟨_,rfl⟩ (.cons ⟨_,rfl⟩ .nil),?_⟩
 exact⟨_,qAm s.heap rfl,rfl,0,rfl⟩
end
end L2
namespace L2
open PySem PySem.Spec PyProof.Rows
structure NI (h:Heap)(x dx C:Addr)(mA:Str→Option Value):Prop where
 obj:h.get? x=some (PySem.W.instObj C dx)
 ns:h.Ns1 dx mA
 ne:dx≠x
theorem K7 {h:Heap}{dx:Addr}{mA:Str→Option Value} (n:h.Ns1 dx mA):∃od,h.get? dx=some od∧∀name,PySem.W.lookIn name od=some (mA name):=by
 obtain⟨o,es,ep,ho,hd,hk,_,hm⟩:=n
 refine⟨o,ho,fun name=>?_⟩
 have e:=hm name
 unfold nsFind findBy at e
 rw[←Array.find?_toList] at e
 unfold PySem.W.lookIn
 rw[hd]
 dsimp only
 split
 ·rename_i y q
  rw[q] at e
  exact congrArg some e
 ·rename_i q
  rw[q] at e
  have a:es.toList.any (·.refKey)=false:=by
   rw[List.any_eq_false]
   intro y hy
   obtain⟨z,t,hkey⟩:=hk y (Array.mem_toList_iff.mp hy)
   simp[DictEntry.refKey,hkey]
  have a':¬es.toList.any (·.refKey)=true:=by rw[a];exact qAe
  rw[if_neg a']
  exact congrArg some e
theorem NI.look {h:Heap}{x dx C:Addr}{mA:Str→Option Value} (I:NI h x dx C mA):∃od,PySem.W.InstAt h x (PySem.W.instObj C dx) C (some od)∧∀name,PySem.W.lookIn name od=some (mA name) :=
 let ⟨od,ho,hl⟩:=K7 I.ns
 ⟨od,⟨I.obj,rfl,rfl,ho⟩,hl⟩
section
variable {prog:Program}{w:World}{A:Around}{E:Value→Shared→Prop}{s:Shared}{K:PySem.W.Frag}{x dx C f:Addr}{mA:Str→Option Value}{name:Str}{v:Value}
theorem Qp {expr:Bool}{Q:Value→Shared→Prop} (X:K.In s.heap) (I:NI s.heap x dx C mA) (hg:PySem.W.plainGet K C name=true) (hh:PySem.W.hasDictIn K C=true)
 (ha:PySem.W.findIn K (.ref C) name=some none) (hv:mA name=some v) (hv':PySem.W.handedIn v=true) (h:Q v { s with toks:=s.toks+1 }) :
 wpAny (model prog w) A (getAttr (.ref x) name expr) Q E s:=by
 obtain⟨od,J,hl⟩:=I.look
 exact PySem.W.get_value X J (qBK hg).1 (PySem.W.findObj_own hh ha rfl (by rw[hl,hv])) hv' h
theorem Lk {expr:Bool}{a:Value}{Q:Value→Shared→Prop} (X:K.In s.heap) (I:NI s.heap x dx C mA) (hg:PySem.W.plainGet K C name=true) (hh:PySem.W.hasDictIn K C=true)
 (ha:PySem.W.findIn K (.ref C) name=some (some a)) (hn:PySem.W.specialIn K a "__get__"=some none) (hc:PySem.W.copiedNames.contains name=false) (hv:mA name=none) (hv':PySem.W.handedIn a=true)
 (h:Q a { s with toks:=s.toks+1 }):wpAny (model prog w) A (getAttr (.ref x) name expr) Q E s:=by
 obtain⟨od,J,hl⟩:=I.look
 exact PySem.W.get_value X J (qBK hg).1 (PySem.W.findObj_cls hh ha hn hv' hc (by rw[hl,hv])) hv' h
theorem Ny {pl:Sem Bool}{Q:Value×List Value→Shared→Prop} (X:K.In s.heap) (I:NI s.heap x dx C mA) (hg:PySem.W.plainGet K C name=true)
 (hf:PySem.W.findIn K (.ref C) name=some (some (.ref f))) (ht:PySem.W.isFn K (.ref f)=true) (hv:mA name=none) (h:Q (.ref f,[.ref x]) s) :
 wpAny (model prog w) A (getMethod (.ref x) name pl) Q E s:=by
 obtain⟨od,J,hl⟩:=I.look
 exact PySem.W.method_fn X J (qBK hg).1 (qBK hg).2 hf (beq_iff_eq.mp ht) (by show(PySem.W.lookIn name od).map (·.isSome)=some false;rw[hl,hv];rfl) h
theorem P6 {ns:List Str}{Q:Unit→Shared→Prop} (X:K.In s.heap) (I:NI s.heap x dx C mA)
 (hs:PySem.W.findIn K (.ref C) "__setattr__"=some (some (.builtin "object.__setattr__"))) (hp:PySem.W.plainOver K C=true) (ht:PySem.W.takerIn K C name=some none) (hh:PySem.W.hasDictIn K C=true)
 (hw:PySem.Within mA ns) (hsz:ns.length≤sizeLine)
 (h:∀h',NI h' x dx C (fun y=>if y=name then some v else mA y)→Heap.SameBut dx s.heap h'→Q Unit.unit { s with heap:=h',toks:=s.toks+2 }) :
 wpAny (model prog w) A (setAttr (.ref x) name v) Q E s:=by
 obtain⟨od,J,hl⟩:=I.look
 refine PySem.W.set_plain X J hs (PySem.W.osa_open (s:={ s with toks:=s.toks+1 }) (r:=none) X J hp ht fun b=>?_)
 obtain⟨cd,hc,hd'⟩:=PySem.W.any_some hh
 have hx:s.heap.get? x=some ⟨.ref C,some dx,.plain,#[]⟩:=I.obj
 refine wpAny_bind (wpAny_pure (wpAny_bind (wpAny_bind (wpAny_loadPart hx (wpAny_bind (PySem.W.Looks.here (s:={ s with toks:=s.toks+1 }) (PySem.W.looks_clsIn X hc) ?_))))))
 rw[hd']
 refine wpAny_pure (a:=some dx) (wpAny_bind (wpAny_pure (wpAny_bind ?_)))
 refine wpAny_nsSet1 (s:={ s with toks:=s.toks+1 }) I.ns fun h' hn2 hs2=>?_
 obtain⟨oD,esD,epD,hoD,hdD,hcD⟩:=hn2.count (PySem.Within.cons name v hw)
 refine wpAny_bind (wpAny_lookBehind hoD (by rw[hdD];exact pastItsLine_dict (qAE hcD (by rw[qAd];omega))) ?_)
 exact wpAny_pure (h _ ⟨(hs2.2 _ (Ne.symm I.ne)).trans I.obj,hn2,I.ne⟩ hs2)
theorem Nd {R:Result→Shared→Prop}{vs:List Value}{kw:List (Str×Value)} (X:K.In s.heap) (hm:PySem.W.makesIn K C=true)
 (hi:PySem.W.findIn K (.ref C) "__init__"=some (some (.ref f))) (hf:PySem.W.typeIn K (.ref f)=some (.type "function"))
 (h:codeAny (model prog w) (A.under (.builtin "type.__call__" ⟨.ref C::vs,kw⟩)) (.call (.ref f) ⟨.ref (s.heap.objs.size+1)::vs,kw⟩) (PySem.W.InitBack (s.heap.objs.size+1) R)
  { s with heap:=(s.heap.push PySem.W.emptyDict).push (PySem.W.instObj C s.heap.objs.size) }) :
 codeAny (model prog w) A (.call (.ref C) ⟨vs,kw⟩) R s:=by
 obtain⟨hh,g,d,t,os⟩:=s
 exact PySem.W.make_core (PySem.W.makes_of X hm) (qBn X hi) (fun self=>PySem.W.bind_fn X self hf) (.inl rfl) h
theorem Rg {R:Result→Shared→Prop} (X:K.In s.heap) (hm:PySem.W.makesIn K C=true)
 (hi:PySem.W.findIn K (.ref C) "__init__"=some (some (.builtin "object.__init__")))
 (hb:∀self,PySem.W.Looks (model prog w) s.heap (bindSpecial (.builtin "object.__init__") self) (.builtin "object.__init__",[self]))
 (h:codeAny (model prog w) (A.under (.builtin "type.__call__" ⟨[.ref C],[]⟩)) (.call (.builtin "object.__init__") ⟨[.ref (s.heap.objs.size+1)],[]⟩) (PySem.W.InitBack (s.heap.objs.size+1) R)
  { s with heap:=(s.heap.push PySem.W.emptyDict).push (PySem.W.instObj C s.heap.objs.size) }) :
 codeAny (model prog w) A (.call (.ref C) ⟨[],[]⟩) R s:=by
 obtain⟨hh,g,d,t,os⟩:=s
 exact PySem.W.make_core (PySem.W.makes_of X hm) (qBn X hi) hb (.inr ⟨rfl,rfl⟩) h
end
def El (f:Str)(v:V):List (Str×V)→List (Str×V)
 |[]=>[(f,v)]
 |(g,x)::r=>if g=f then (g,v)::r else (g,x)::El f v r
theorem Ew (f g:Str)(v:V):∀fs:List (Str×V),(El f v fs).lookup g=if g=f then some v else fs.lookup g
 |[]=>by
  show List.lookup g [(f,v)]=_
  by_cases h:g=f
  ·have hb:(g==f)=true:=beq_iff_eq.mpr h
   simp only[List.lookup,hb,if_pos h]
  ·have hb:(g==f)=false:=beq_eq_false_iff_ne.mpr h
   simp only[List.lookup,hb,if_neg h]
 |(k,x)::r=>by
  have ih:=Ew f g v r
  rw[show El f v ((k,x)::r)=(if k=f then (k,v)::r else (k,x)::El f v r) from rfl]
  by_cases hk:k=f
  ·rw[if_pos hk]
   by_cases h:g=k
   ·have hb:(g==k)=true:=beq_iff_eq.mpr h
    simp only[List.lookup,hb,if_pos (h.trans hk)]
   ·have hb:(g==k)=false:=beq_eq_false_iff_ne.mpr h
    simp only[List.lookup,hb,if_neg (fun e:g=f=>h (e.trans hk.symm))]
  ·rw[if_neg hk]
   by_cases h:g=k
   ·have hb:(g==k)=true:=beq_iff_eq.mpr h
    simp only[List.lookup,hb,if_neg (fun e:g=f=>hk (h.symm.trans e))]
   ·have hb:(g==k)=false:=beq_eq_false_iff_ne.mpr h
    simp only[List.lookup,hb]
    exact ih
theorem D4 (f:Str)(v:V):∀fs:List (Str×V),f∈(El f v fs).map (·.1)∧∀g,g∈fs.map (·.1)→g∈(El f v fs).map (·.1)
 |[]=>⟨by simp[El],fun g h=>by simp at h⟩
 |(k,x)::r=>by
  obtain⟨i1,i2⟩:=D4 f v r
  rw[show El f v ((k,x)::r)=(if k=f then (k,v)::r else (k,x)::El f v r) from rfl]
  by_cases hk:k=f
  ·rw[if_pos hk]
   subst hk
   exact⟨by simp,fun g h=>by simpa using h⟩
  ·rw[if_neg hk]
   refine⟨?_,fun g h=>?_⟩
   ·rw[qA8]
    exact qAi _ i1
   ·rw[qA8] at h ⊢
    rcases qAq.mp h with e|e
    ·exact qAq.mpr (.inl e)
    ·exact qAi _ (i2 g e)
theorem Ea (f:Str)(v:V):∀fs:List (Str×V),(El f v fs).length≤fs.length+1
 |[]=>by simp[El]
 |(k,x)::r=>by
  have ih:=Ea f v r
  rw[show El f v ((k,x)::r)=(if k=f then (k,v)::r else (k,x)::El f v r) from rfl]
  by_cases hk:k=f
  ·rw[if_pos hk,qAd,qAd];omega
  ·rw[if_neg hk,qAd,qAd];omega
theorem Kx.some_of {v:V}{o:Option Value} (r:Kx (some v) o):∃u,o=some u∧AN v u:=by
 cases o with
 |none=>exact(show False from r).elim
 |some u=>exact⟨u,rfl,r⟩
theorem Kx.none_of {o:Option Value} (r:Kx none o):o=none:=by
 cases o with
 |none=>rfl
 |some u=>exact(show False from r).elim
theorem Hr {v:V}{u:Value} (r:AN v u):PySem.W.handedIn u=true:=by
 cases v with
 |non=>cases (show u=Value.none from r);rfl
 |bl b=>cases (show u=Value.bool b from r);rfl
 |int i=>obtain⟨t,e⟩:=(show ∃t,u=Value.int i t from r);cases e;rfl
 |str x=>obtain⟨t,e⟩:=(show ∃t,u=Value.str x t from r);cases e;rfl
 |byt b=>obtain⟨t,e⟩:=(show ∃t,u=Value.bytes b t from r);cases e;rfl
 |flt b=>obtain⟨t,e⟩:=(show ∃t,u=Value.float b t from r);cases e;rfl
 |ref a=>cases (show u=Value.ref a from r);rfl
 |ty n=>cases (show u=Value.type n from r);rfl
section
variable {P:Program}{w:World}{H H':Hp}{h h':Heap}{a C dx:Addr}{fs fs':List (Str×V)}
theorem ED (hok:HOk P w H h)(e:H a=some (.ins C dx fs)):∃mA,NI h a dx C mA∧(∀f,Kx (fs.lookup f) (mA f))∧PySem.Within mA (fs.map (·.1))∧fs.length≤1000∧H dx=some (.own a):=by
 obtain⟨d,z,ne,ob,mA,n,r,q⟩:=(show Bj P w H h a (.ins C dx fs) from hok a _ e)
 exact⟨mA,⟨ob,n,ne⟩,r,q,z,d⟩
end
structure Cls (K:PySem.W.Frag)(C:Addr):Prop where
 pg:PySem.W.plainGet K C Str.empty=true
 hd:PySem.W.hasDictIn K C=true
 po:PySem.W.plainOver K C=true
 sa:PySem.W.findIn K (.ref C) "__setattr__"=some (some (.builtin "object.__setattr__"))
theorem Cls.get {K:PySem.W.Frag}{C:Addr} (c:Cls K C) (f:Str):PySem.W.plainGet K C f=true:=c.pg
def AS (K:PySem.W.Frag)(C:Addr)(f:Str):Prop:=PySem.W.findIn K (.ref C) f=some none
theorem AS.taker {K:PySem.W.Frag}{C:Addr}{f:Str} (n:AS K C f):PySem.W.takerIn K C f=some none:=by
 unfold PySem.W.takerIn
 rw[show PySem.W.findIn K (.ref C) f=some none from n]
 rfl
structure Con (K:PySem.W.Frag)(C:Addr)(f:Str)(v:V)(u:Value):Prop where
 at_:PySem.W.findIn K (.ref C) f=some (some u)
 rel:AN v u
 get:PySem.W.specialIn K u "__get__"=some none
 cp:PySem.W.copiedNames.contains f=false
structure Qs (K:PySem.W.Frag)(C:Addr)(m:Str)(f:Addr):Prop where
 at_:PySem.W.findIn K (.ref C) m=some (some (.ref f))
 fn:PySem.W.isFn K (.ref f)=true
 kp:PySem.W.keepIn K (.ref f)=true
section
variable {X:Cx}{pins:List (Addr×Obj)}{σ:St}{H:Hp}{s:Shared}{a C dx:Addr}{fs:List (Str×V)}{f:Str}{v:V}{A:Around}{E:Value→Shared→Prop}
theorem Fj {b:Bool}{Q:Value→Shared→Prop} (I:Inv X pins σ H s) (e:H a=some (.ins C dx fs)) (c:Cls X.K C) (n:AS X.K C f) (l:fs.lookup f=some v)
 (h:∀u s',Inv X pins σ H s'→AN v u→Q u s'):wpAny (model X.prog X.w) A (getAttr (.ref a) f b) Q E s:=by
 obtain⟨mA,O,r,_,_,_⟩:=ED I.hok e
 obtain⟨u,hu,ru⟩:=Kx.some_of (v:=v) (o:=mA f) (by rw[←l];exact r f)
 exact Qp I.kIn O (c.get f) c.hd n hu (Hr ru) (h u _ (I.tok _) ru)
theorem LO {b:Bool}{u:Value}{Q:Value→Shared→Prop} (I:Inv X pins σ H s) (e:H a=some (.ins C dx fs)) (c:Cls X.K C) (k:Con X.K C f v u) (l:fs.lookup f=none)
 (h:∀s',Inv X pins σ H s'→Q u s'):wpAny (model X.prog X.w) A (getAttr (.ref a) f b) Q E s:=by
 obtain⟨mA,O,r,_,_,_⟩:=ED I.hok e
 have hn:mA f=none:=Kx.none_of (by rw[←l];exact r f)
 exact Lk I.kIn O (c.get f) c.hd k.at_ k.get k.cp hn (Hr k.rel) (h _ (I.tok _))
theorem DL {m:Str}{g:Addr}{pl:Sem Bool}{Q:Value×List Value→Shared→Prop} (I:Inv X pins σ H s) (e:H a=some (.ins C dx fs)) (c:Cls X.K C) (k:Qs X.K C m g) (l:fs.lookup m=none)
 (h:Q (.ref g,[.ref a]) s):wpAny (model X.prog X.w) A (getMethod (.ref a) m pl) Q E s:=by
 obtain⟨mA,O,r,_,_,_⟩:=ED I.hok e
 have hn:mA m=none:=Kx.none_of (by rw[←l];exact r m)
 exact Ny I.kIn O (c.get m) k.at_ k.fn hn h
theorem E8 {y:V}{u:Value}{Q:Unit→Shared→Prop} (I:Inv X pins σ H s) (e:H a=some (.ins C dx fs)) (c:Cls X.K C) (n:AS X.K C f) (hl:fs.length<1000) (ry:AN y u)
 (h:∀s',Inv X pins σ (upd H a (.ins C dx (El f y fs))) s'→Q Unit.unit s'):wpAny (model X.prog X.w) A (setAttr (.ref a) f u) Q E s:=by
 obtain⟨mA,O,r,wi,_,ho⟩:=ED I.hok e
 have hz:(fs.map (·.1)).length≤sizeLine:=by rw[qAf,sizeLine_eq];omega
 refine P6 I.kIn O c.sa c.po n.taker c.hd wi hz fun h' O' sb=>h _ ?_
 have hd:∃o,h'.get? dx=some o:=let ⟨o,_,_,e',_⟩:=O'.ns;⟨o,e'⟩
 refine I.write (x:=a) (e:=dx) (by rw[e];exact True.intro) (.inr ho) (fun b q hb z=>(sb.2 b hb).trans z) hd ?_
 refine⟨by rw[Af O.ne];exact ho,?_,O.ne,O'.obj,_,O'.ns,fun g=>?_,fun g hg=>?_⟩
 ·have:=Ea f y fs;omega
 ·show Kx ((El f y fs).lookup g) (if g=f then some u else mA g)
  rw[Ew]
  by_cases q:g=f
  ·rw[if_pos q,if_pos q];exact ry
  ·rw[if_neg q,if_neg q];exact r g
 ·by_cases q:g=f
  ·rw[q];exact(D4 f y fs).1
  ·refine(D4 f y fs).2 g (wi g fun z=>hg ?_)
   show(if g=f then some u else mA g)=none
   rw[if_neg q];exact z
theorem Inv.made (I:Inv X pins σ H s):Inv X pins σ (upd (upd H s.heap.objs.size (.own (s.heap.objs.size+1))) (s.heap.objs.size+1) (.ins C s.heap.objs.size []))
 { s with heap:=(s.heap.push PySem.W.emptyDict).push (PySem.W.instObj C s.heap.objs.size) }:=by
 have e1:(s.heap.push PySem.W.emptyDict).get? s.heap.objs.size=some PySem.W.emptyDict:=qAm s.heap rfl
 have e2:((s.heap.push PySem.W.emptyDict).push (PySem.W.instObj C s.heap.objs.size)).get? (s.heap.objs.size+1)=some (PySem.W.instObj C s.heap.objs.size):=by
  have:=qAm (s.heap.push PySem.W.emptyDict) (o:=PySem.W.instObj C s.heap.objs.size) rfl
  rwa [qBU] at this
 have e3:(s.heap.push PySem.W.emptyDict).Ns s.heap.objs.size (fun _=>none):=⟨PySem.W.emptyDict,#[],_,e1,rfl,(fun e he=>absurd he (by simp)),fun _=>rfl⟩
 have I1:=I.laid (a:=s.heap.objs.size) (o:=.own (s.heap.objs.size+1)) (h':=s.heap.push PySem.W.emptyDict) (t':=s.toks) (fun b u q=>qAb _ q) (qAg _) ⟨_,e1⟩
 refine I1.laid (a:=s.heap.objs.size+1) (o:=.ins C s.heap.objs.size []) (t':=s.toks) (fun b u q=>qAb _ q) (Nat.le_of_eq (qBU _ _)) ?_
 have ne:s.heap.objs.size≠s.heap.objs.size+1:=qAo (qB2 _)
 refine⟨by rw[Af ne,Ac],qAw _,ne,e2,fun _=>none,(Heap.Ns1.of_empty e3).at fun o q=>qAb _ q,fun _=>True.intro,fun y hy=>absurd rfl hy⟩
theorem KW {prog:Program}{w:World}{env:Env}{e:Expr}{f:Str}{pos:Pos}{s:Shared}{Q:Value→Shared→Prop} (hb:attributeBase e f env (eval e env)=eval e env)
 (h:wpAny (model prog w) A (eval e env) (fun o s₁=>wpAny (model prog w) A (getAttr o f true) Q E s₁) E s):wpAny (model prog w) A (eval (.Attribute e f pos) env) Q E s :=
 Attribute_any_ h (by rw[arm_eval_Attribute,hb])
end
def YF (K:PySem.W.Frag)(ta:TE)(f:Str):TE:=fun σ H Q=>ta σ H fun x H1=>∃a C dx fs v,x=.ref a∧H1 a=some (.ins C dx fs)∧Cls K C∧AS K C f∧fs.lookup f=some v∧Q v H1
def ZG (K:PySem.W.Frag)(ta:TE)(f:Str):TE:=fun σ H Q=>ta σ H fun x H1=>∃a C dx fs v u,x=.ref a∧H1 a=some (.ins C dx fs)∧Cls K C∧Con K C f v u∧fs.lookup f=none∧Q v H1
def XT (K:PySem.W.Frag)(ta tv:TE)(f:Str):TS:=fun D σ H=>tv σ H fun y H1=>ta σ H1 fun x H2=>∃a C dx fs,x=.ref a∧H2 a=some (.ins C dx fs)∧Cls K C∧AS K C f∧fs.length<1000 ∧
 D.nx σ (upd H2 a (.ins C dx (El f y fs)))
def UT (X:Cx)(op:Operator)(rd:V→V→Hp→VK→Prop):Prop :=
 ∀(pins:List (Addr×Obj))(s:Shared)(σ:St)(H:Hp)(x y:V)(u v:Value)(Q:VK),Inv X pins σ H s→AN x u→AN y v→rd x y H Q→wpAny (model X.prog X.w) X.A (inplaceOp op u v) (EP X pins σ Q) X.xe s
def PJ (K:PySem.W.Frag)(ta tv:TE)(rd:V→V→Hp→VK→Prop)(f:Str):TS:=fun D σ H=>ta σ H fun x H1=>∃a C dx fs v,x=.ref a∧H1 a=some (.ins C dx fs)∧Cls K C∧AS K C f∧fs.lookup f=some v ∧
 tv σ H1 fun y H2=>rd v y H2 fun z H3=>∃dx' fs',H3 a=some (.ins C dx' fs')∧fs'.length<1000∧D.nx σ (upd H3 a (.ins C dx' (El f z fs')))
section
variable {X:Cx}{o e value:Expr}{f:Str}{pos pos' tpos:Pos}{ta tv:TE}
theorem Q6 (he:PE X e ta)(hb:attributeBase e f X.env (eval e X.env)=eval e X.env):PE X (.Attribute e f pos) (YF X.K ta f):=by
 intro pins s σ H Q I h
 refine KW hb (thn (he pins s σ H _ I h) fun u s1 hh=>?_)
 obtain⟨x,H1,I1,rx,a,C,dx,fs,v,ex,ea,c,n,l,q⟩:=hh
 subst ex
 obtain rfl:u=Value.ref a:=rx
 exact Fj I1 ea c n l fun u' s2 I2 ru=>⟨v,H1,I2,ru,q⟩
theorem XC (he:PE X e ta)(hb:attributeBase e f X.env (eval e X.env)=eval e X.env):PE X (.Attribute e f pos) (ZG X.K ta f):=by
 intro pins s σ H Q I h
 refine KW hb (thn (he pins s σ H _ I h) fun u s1 hh=>?_)
 obtain⟨x,H1,I1,rx,a,C,dx,fs,v,u0,ex,ea,c,k,l,q⟩:=hh
 subst ex
 obtain rfl:u=Value.ref a:=rx
 exact LO I1 ea c k l fun s2 I2=>⟨v,H1,I2,k.rel,q⟩
theorem Jb (ha:PE X o ta)(hv:PE X value tv)(hs:swapsWith value (some (.Attribute o f pos')) pos.line X.env=pure false):PS X (.Assign [.Attribute o f pos'] value pos) (XT X.K ta tv f):=by
 intro pins s σ H D I h
 refine plainObj_wpAny_Assign_Attribute (thn (hv pins s σ H _ I h) fun u s1 ⟨y,H1,I1,ry,q⟩=>thn (ha pins s1 σ H1 _ I1 q) fun ov s2 ⟨x,H2,I2,rx,a,C,dx,fs,ex,ea,c,n,l,q2⟩=>?_) hs
 subst ex
 obtain rfl:ov=Value.ref a:=rx
 exact E8 I2 ea c n l ry fun s3 I3=>⟨σ,_,I3,q2⟩
theorem R5 {op:Operator}{rd:V→V→Hp→VK→Prop} (ha:PE X o ta) (hv:PE X value tv) (hop:UT X op rd):PS X (.AugAssign (.Attribute o f tpos) op value pos) (PJ X.K ta tv rd f):=by
 intro pins s σ H D I h
 refine wpAny_AugAssign_AttributeAny (thn (ha pins s σ H _ I h) fun ov s1 hh=>?_)
 obtain⟨x,H1,I1,rx,a,C,dx,fs,v,ex,ea,c,n,l,q⟩:=hh
 subst ex
 obtain rfl:ov=Value.ref a:=rx
 refine Fj I1 ea c n l fun u s2 I2 ru=>thn (hv pins s2 σ H1 _ I2 q) fun w3 s3 ⟨y,H2,I3,ry,q3⟩=>thn (hop pins s3 σ H2 v y u w3 _ I3 ru ry q3) fun w4 s4 hh=>?_
 obtain⟨z,H3,I4,rz,dx',fs',ea',l',q4⟩:=hh
 exact E8 I4 ea' c n l' rz fun s5 I5=>⟨σ,_,I5,q4⟩
def X1:V→V→Hp→VK→Prop:=fun x y H Q=>∃i j,x=.int i∧y=.int j∧Q (.int (i+j)) H
def Yt:V→V→Hp→VK→Prop:=fun x y H Q=>∃i j,x=.int i∧y=.int j∧Q (.int (i-j)) H
theorem Wy:UT X .Add X1:=by
 rintro pins s σ H x y u v Q I rx ry ⟨i,j,rfl,rfl,q⟩
 obtain⟨t,rfl⟩:=(show ∃t,u=Value.int i t from rx)
 obtain⟨t',rfl⟩:=(show ∃t',v=Value.int j t' from ry)
 exact PyProof.Rows.iadd_int ⟨.int (i+j),H,I.tok _,⟨_,rfl⟩,q⟩
theorem W9:UT X .Sub Yt:=by
 rintro pins s σ H x y u v Q I rx ry ⟨i,j,rfl,rfl,q⟩
 obtain⟨t,rfl⟩:=(show ∃t,u=Value.int i t from rx)
 obtain⟨t',rfl⟩:=(show ∃t',v=Value.int j t' from ry)
 exact PyProof.Rows.isub_int ⟨.int (i-j),H,I.tok _,⟨_,rfl⟩,q⟩
theorem Pk {pl:Sem Bool}{m:Str}{apos:Pos}{args:List Expr}{pins:List (Addr×Obj)}{s:Shared}{σ:St}{H:Hp}{Q:Value→Shared→Prop}{te:TE} (he:PE X e te) (I:Inv X pins σ H s)
 (h:te σ H fun x H1=>∃a C dx fs g,x=.ref a∧H1 a=some (.ins C dx fs)∧Cls X.K C∧Qs X.K C m g∧fs.lookup m=none ∧
  ∀s1,Inv X pins σ H1 s1→wpAny (model X.prog X.w) X.A (callWith pos (.ref g) [.ref a] (backTo pos (starEach args X.env)) (backToKw pos (keywordEach [] X.env))) Q X.xe s1)
 (ht:eval (.Call (.Attribute e m apos) args [] pos) X.env=(do
  let ov ←eval e X.env
  standAt apos.atName
  let (f,first) ←holding [ov] (getMethod ov m pl)
  callWith pos f first (backTo pos (starEach args X.env)) (backToKw pos (keywordEach [] X.env)))) :
 wpAny (model X.prog X.w) X.A (eval (.Call (.Attribute e m apos) args [] pos) X.env) Q X.xe s:=by
 refine qBB (pl:=pl) (thn (he pins s σ H _ I h) fun u s1 ⟨x,H1,I1,rx,a,C,dx,fs,g,ex,ea,c,k,l,q⟩=>?_) ht
 subst ex
 obtain rfl:u=Value.ref a:=rx
 exact DL I1 ea c k l (q s1 I1)
end
section
variable {X:Cx}{pins:List (Addr×Obj)}{σ:St}{H:Hp}{s:Shared}{A:Around}{E:Value→Shared→Prop}{Q:Value→Shared→Prop}{c:Value}{b:Bool}
inductive J1 (K:PySem.W.Frag)(H:Hp):V→Value→Prop where
 |non:J1 K H .non (.type "NoneType")
 |bl (x:Bool):J1 K H (.bl x) (.type "bool")
 |int (i:Int):J1 K H (.int i) (.type "int")
 |str (x:Str):J1 K H (.str x) (.type "str")
 |flt (x:UInt64):J1 K H (.flt x) (.type "float")
 |lst {a:Addr}{xs:List V} (e:H a=some (.lst xs)):J1 K H (.ref a) (.type "list")
 |frz {a:Addr}{o:Obj}{xs:List V} (e:H a=some (.frz o (.lst xs))):J1 K H (.ref a) (.type "list")
 |tup {a:Addr}{xs:List V} (e:H a=some (.tup xs)):J1 K H (.ref a) (.type "tuple")
 |dK {a:Addr}{kvs:List (Key×V)} (e:H a=some (.dK kvs)):J1 K H (.ref a) (.type "dict")
 |dT {a:Addr}{kvs:List (List Key×V)} (e:H a=some (.dT kvs)):J1 K H (.ref a) (.type "dict")
 |ins {a C dx:Addr}{fs:List (Str×V)} (e:H a=some (.ins C dx fs)) (cl:Cls K C) (ha:PySem.W.findIn K (.ref C) "__class__"=some (some (.builtin "object.__class__")))
  (hn:PySem.W.specialIn K (.builtin "object.__class__") "__get__"=some (some (.builtin "getset_descriptor.__get__"))) (htk:PySem.W.takesIn K (.builtin "object.__class__")=some true)
  (hm:PySem.W.mroIn K C (.type "object")=some true):J1 K H (.ref a) (.ref C)
theorem CO {x:V}{u t:Value} (I:Inv X pins σ H s) (rx:AN x u) (ty:J1 X.K H x t) (e:PySem.W.kitOne X.K t c=some b) (h:∀tk,Q (.bool b) { s with toks:=tk }) :
 wpAny (model X.prog X.w) A (call (.builtin "isinstance") [u,c]) Q E s:=by
 cases ty with
 |non=>cases (show u=Value.none from rx);exact qAK PySem.W.kitx_none I.kIn True.intro e (fun z=>nomatch z) h
 |bl y=>cases (show u=Value.bool y from rx);exact qAK PySem.W.kitx_bool I.kIn True.intro e (fun z=>nomatch z) h
 |int i=>obtain⟨t,q⟩:=(show ∃t,u=Value.int i t from rx);cases q;exact qAK PySem.W.kitx_int I.kIn True.intro e (fun z=>nomatch z) h
 |str y=>obtain⟨t,q⟩:=(show ∃t,u=Value.str y t from rx);cases q;exact qAK PySem.W.kitx_str I.kIn True.intro e (fun z=>nomatch z) h
 |flt y=>obtain⟨t,q⟩:=(show ∃t,u=Value.float y t from rx);cases q;exact qAK PySem.W.kitx_float I.kIn True.intro e (fun z=>nomatch z) h
 |@lst a xs ea =>
  cases (show u=Value.ref a from rx)
  obtain⟨_,_,n,_,h1⟩:=(show Bj X.prog X.w H s.heap a (.lst xs) from I.hok a _ ea)
  exact qAK qBz I.kIn ⟨_,h1,rfl⟩ e (fun z=>nomatch z) h
 |@frz a ob xs ea =>
  cases (show u=Value.ref a from rx)
  obtain⟨_,_,_,n,_,h1⟩:=(show Bj X.prog X.w H s.heap a (.frz ob (.lst xs)) from I.hok a _ ea)
  exact qAK qBz I.kIn ⟨_,h1,rfl⟩ e (fun z=>nomatch z) h
 |@tup a xs ea =>
  cases (show u=Value.ref a from rx)
  obtain⟨_,_,_,p⟩:=(show Bj X.prog X.w H s.heap a (.tup xs) from I.hok a _ ea)
  obtain⟨o,h1,h2,_⟩:=p
  exact qAK PySem.W.kitx_tuple I.kIn ⟨o,h1,h2⟩ e (fun z=>nomatch z) h
 |@dK a kvs ea =>
  cases (show u=Value.ref a from rx)
  obtain⟨_,_,vs,_,p⟩:=(show Bj X.prog X.w H s.heap a (.dK kvs) from I.hok a _ ea)
  obtain⟨o,es,ep,h1,h2,_⟩:=p
  exact qAK PySem.W.kitx_dict I.kIn ⟨o,h1,h2.1⟩ e (fun z=>nomatch z) h
 |@dT a kvs ea =>
  cases (show u=Value.ref a from rx)
  obtain⟨_,_,xs,_,o,es,ep,h1,h2,_⟩:=(show Bj X.prog X.w H s.heap a (.dT kvs) from I.hok a _ ea)
  exact qAK PySem.W.kitx_dict I.kIn ⟨o,h1,h2.1⟩ e (fun z=>nomatch z) h
 |@ins a C dx fs ea cl ha hn htk hm =>
  cases (show u=Value.ref a from rx)
  obtain⟨mA,O,_⟩:=ED I.hok ea
  obtain⟨od,J,_⟩:=O.look
  exact qAK (PySem.W.kitx_own (cl.get _) cl.hd ha hn htk hm) I.kIn J e (fun z=>nomatch z) h
end
end L2
namespace L2
open PySem PySem.Spec PyProof.Rows
structure Be (k:Nat)(A:Around):Prop where
 hd:A.handled=none
 dp:A.depth+3*k+5<recursionLimit
 un:A.units+16*k+200<cLine
theorem Be.mono {j k:Nat}{A:Around} (r:Be k A) (h:j≤k):Be j A:=⟨r.hd,by have:=r.dp;omega,by have:=r.un;omega⟩
theorem Be.deeper {k:Nat}{A:Around} (r:Be (k+1) A) (env:Env):Be k (A.deeper env) :=
 ⟨r.hd,by have:=r.dp;show A.depth+1+3*k+5<_;omega,by have:=r.un;show A.units+3+16*k+200<_;omega⟩
theorem Be.in1 {k:Nat}{A:Around} (r:Be (k+1) A):Be k A.in1 :=
 ⟨r.hd,by have:=r.dp;show A.depth+3*k+5<_;omega,by have:=r.un;show A.units+1+16*k+200<_;omega⟩
theorem JH {A:Around}{C:Addr}{us:List Value}{kw:List (Str×Value)}:(A.under (.builtin "type.__call__" ⟨.ref C::us,kw⟩)).depth=A.depth+1:=by
 first|rfl|simp[Around.under,Code.weight,Code.isCreation,Code.isGuard,Code.isCaller,Code.frames,Code.isFrame,guardIds]
theorem Jw {A:Around}{C:Addr}{us:List Value}{kw:List (Str×Value)}:(A.under (.builtin "type.__call__" ⟨.ref C::us,kw⟩)).units=A.units+1:=by
 first|rfl|simp[Around.under,Code.cUnits,Code.frames,Code.isFrame]
theorem Be.make {k:Nat}{A:Around} (r:Be (k+1) A) (C:Addr) (us:List Value) (kw:List (Str×Value)):Be k (A.under (.builtin "type.__call__" ⟨.ref C::us,kw⟩)) :=
 ⟨r.hd,by have:=r.dp;rw[JH];omega,by have:=r.un;rw[Jw];omega⟩
theorem Be.depth {k:Nat}{A:Around} (r:Be k A):A.depth<recursionLimit:=by have:=r.dp;omega
theorem Be.units {k:Nat}{A:Around} (r:Be k A):A.units+64<cLine:=by have:=r.un;omega
theorem Be.units0 {k:Nat}{A:Around} (r:Be k A):A.units<cLine:=by have:=r.un;omega
def OI:TA:=fun _ H Q=>Q [] H
def O0 (ta:TE)(tr:TA):TA:=fun σ H Q=>ta σ H fun x H1=>tr σ H1 fun xs H2=>Q (x::xs) H2
section
variable {X:Cx}{e:Expr}{es:List Expr}{te:TE}{t:TA}{pos:Pos}
theorem A5:PA X [] OI:=fun _ _ _ _ H Q I h=>Calls.spliced_nil ⟨[],H,I,.nil,h⟩
theorem Az (ha:PE X e te)(hr:PA X es t)(hs:starEach (e::es) X.env=(false,eval e X.env)::starEach es X.env:=by rfl):PA X (e::es) (O0 te t):=by
 intro pos pins s σ H Q I h
 rw[hs]
 show wpAny _ _ (spliced ((false,eval e X.env)::backTo pos (starEach es X.env))) _ _ s
 refine Calls.spliced_cons (thn (ha pins s σ H _ I h) fun u s1 hh=>?_)
 obtain⟨x,H1,I1,r1,q1⟩:=hh
 exact thn (hr pos pins s1 σ H1 _ I1 q1) fun us s2 ⟨xs,H2,I2,r2,q2⟩=>⟨x::xs,H2,I2,.cons r1 r2,q2⟩
def X4 (t:TA):TE:=fun σ H Q=>t σ H fun xs H1=>xs.length≤sizeLine∧∀p,H1 p=none→Q (.ref p) (upd H1 p (.tup xs))
def X3 (t:TA):TE:=fun σ H Q=>t σ H fun xs H1=>xs.length≤sizeLine∧∀p,H1 p=none→Q (.ref p) (upd H1 p (.lst xs))
theorem Q8 {x1} (h:PA X es t):PE X (.Tuple es x1 pos) (X4 t):=by
 intro pins s σ H Q I hq
 refine wpAny_Tuple_spliced (thn (h pos pins s σ H _ I hq) fun us s1 ⟨xs,H1,I1,r,z,q⟩=>⟨by rw[←r.length];exact z,?_⟩)
 have hf:H1 s1.heap.objs.size=none:=I1.hok.fresh (qAg _)
 refine⟨.ref s1.heap.objs.size,upd H1 s1.heap.objs.size (.tup xs),I1.laid (t':=s1.toks) (fun b u e=>qAb _ e) (qAg _) ?_,rfl,q _ hf⟩
 exact⟨z,us,r,⟨_,qAm _ rfl,rfl,_,rfl⟩⟩
theorem WD (h:PA X es t):PE X (.List es pos) (X3 t):=by
 intro pins s σ H Q I hq
 refine wpAny_List_spliced (thn (h pos pins s σ H _ I hq) fun us s1 ⟨xs,H1,I1,r,z,q⟩=>⟨by rw[←r.length];exact z,?_⟩)
 have hf:H1 s1.heap.objs.size=none:=I1.hok.fresh (qAg _)
 refine⟨.ref s1.heap.objs.size,upd H1 s1.heap.objs.size (.lst xs),I1.laid (t':=s1.toks) (fun b u e=>qAb _ e) (qAg _) ?_,rfl,q _ hf⟩
 exact⟨z,us,0,r,qAm _ rfl⟩
end
abbrev Sp:=List V→Hp→VK→XK→Prop
abbrev CXT:=List Env→Hp→Shared→XK→Value→Shared→Prop
structure JA (P:Program)(w:World)(K:PySem.W.Frag)(mg:Str→Option Value)(base:Heap)(A:Around)(outer:List Env)(s:Shared)(H:Hp):Prop where
 frames:A.frames=some outer
 mod:Mod K mg base
 bs:∀b o,base.get? b=some o→s.heap.get? b=some o∧H b=none
 bsz:base.objs.size≤s.heap.objs.size
 funs:s.heap.FunFrames base outer
 frf:∀b∈frs outer,H b=none
 hok:HOk P w H s.heap
 bare:AllBare s.gens
 tb:TB P K mg base H
def CE (outer:List Env)(P:Program)(w:World)(H:Hp)(s:Shared)(Q:VK)(u:Value)(s':Shared):Prop :=
 ∃v H',s'.os=s.os∧AllBare s'.gens∧Un (frs outer) [] H H' s.heap s'.heap∧HOk P w H' s'.heap∧AN v u∧Q v H'
def CR (CX:CXT)(outer:List Env)(P:Program)(w:World)(H:Hp)(s:Shared)(Q:VK)(E:XK)(r:Result)(s':Shared):Prop :=
 match r with
 |.ok (.ret u)=>CE outer P w H s Q u s'
 |.ok _=>False
 |.error e=>CX outer H s E e s'
structure AJ (P:Program)(w:World)(K:PySem.W.Frag)(mg:Str→Option Value)(base:Heap)(CX:CXT)(k:Nat)(f:Addr)(fd:FuncData)(ps:List Str)(sp:Sp):Prop where
 len:∀vs H Q E,sp vs H Q E→vs.length=ps.length
 run:∀(A:Around)(outer:List Env)(s:Shared)(H:Hp)(args:Args)(us:List Value)(vs:List V)(Q:VK)(E:XK),Be k A→JA P w K mg base A outer s H→BindsTo s fd args (ps.zip us)→AA vs us→sp vs H Q E →
  codeAny (model P w) A (.call (.ref f) args) (CR CX outer P w H s Q E) s
theorem AJ.mono {P:Program}{w:World}{K:PySem.W.Frag}{mg:Str→Option Value}{base:Heap}{CX:CXT}{j k:Nat}{f:Addr}{fd:FuncData}{ps:List Str}{sp:Sp} (F:AJ P w K mg base CX j f fd ps sp) (h:j≤k) :
 AJ P w K mg base CX k f fd ps sp:=⟨F.len,fun A outer s H args us vs Q E hr=>F.run A outer s H args us vs Q E (hr.mono h)⟩
theorem AJ.imp {P:Program}{w:World}{K:PySem.W.Frag}{mg:Str→Option Value}{base:Heap}{CX:CXT}{k:Nat}{f:Addr}{fd:FuncData}{ps:List Str}{sp sp':Sp} (F:AJ P w K mg base CX k f fd ps sp)
 (h:∀vs H Q E,sp' vs H Q E→sp vs H Q E):AJ P w K mg base CX k f fd ps sp' :=
 ⟨fun vs H Q E q=>F.len vs H Q E (h _ _ _ _ q),fun A outer s H args us vs Q E hr he hb hv hs=>F.run A outer s H args us vs Q E hr he hb hv (h _ _ _ _ hs)⟩
theorem JA.make {P:Program}{w:World}{K:PySem.W.Frag}{mg:Str→Option Value}{base:Heap}{A:Around}{outer:List Env}{s:Shared}{H:Hp} (e:JA P w K mg base A outer s H) (C:Addr) (us:List Value) (kw:List (Str×Value)) :
 JA P w K mg base (A.under (.builtin "type.__call__" ⟨.ref C::us,kw⟩)) outer s H:=⟨by first|exact e.frames|(simpa [Around.under,Code.envs,Code.isFrame,pushEnvs] using e.frames),e.mod,e.bs,e.bsz,e.funs,e.frf,e.hok,e.bare,e.tb⟩
theorem JA.in1 {P:Program}{w:World}{K:PySem.W.Frag}{mg:Str→Option Value}{base:Heap}{A:Around}{outer:List Env}{s:Shared}{H:Hp} (e:JA P w K mg base A outer s H) :
 JA P w K mg base A.in1 outer s H:=⟨e.frames,e.mod,e.bs,e.bsz,e.funs,e.frf,e.hok,e.bare,e.tb⟩
section
variable {X:Cx}{pins:List (Addr×Obj)}{σ:St}{H:Hp}{s s':Shared}
theorem Inv.env0 (I:Inv X pins σ H s):JA X.prog X.w X.K X.mg X.base X.A X.stack s H :=
 ⟨I.ok.frames,I.ok.mod,I.bs,qAE I.ok.bsz I.sz,I.stack,I.stkFree,I.hok,I.bare,I.tb⟩
theorem Inv.after {Q:VK}{u:Value} (I:Inv X pins σ H s) (h:CE X.stack X.prog X.w H s Q u s'):EP X pins σ Q u s':=by
 obtain⟨v,H',os,bare,un,hok,r,q⟩:=h
 obtain⟨hh,g,d,t,os'⟩:=s'
 obtain rfl:os'=s.os:=os
 exact⟨v,H',I.call (h':=hh) (g':=g) (d':=d) (t':=t) (ch:=[]) un hok bare (fun b z=>absurd z (by simp)),r,q⟩
end
def Rb (sp:Sp)(dvs:List V)(E:XK)(t:TA):TE:=fun σ H Q=>t σ H fun vs H1=>sp (vs++dvs) H1 Q E
def QP (C:Addr)(m:Str)(sp:Sp)(dvs:List V)(E:XK)(ta:TE)(t:TA):TE:=fun σ H Q=>ta σ H fun x H1=>∃a dx fs,x=.ref a∧H1 a=some (.ins C dx fs)∧fs.lookup m=none ∧
 t σ H1 fun vs H2=>sp (x::(vs++dvs)) H2 Q E
def QN (C:Addr)(sp:Sp)(dvs:List V)(E:XK)(t:TA):TE:=fun σ H Q=>t σ H fun vs H1=>∀x dx,H1 x=none→H1 dx=none→dx≠x →
 sp (.ref x::(vs++dvs)) (upd (upd H1 dx (.own x)) x (.ins C dx [])) (fun v H2=>v=.non∧Q (.ref x) H2) E
def Binds (K:PySem.W.Frag)(fd:FuncData)(ps:List Str)(ds:List Value):Prop :=
 ∀(s:Shared)(us:List Value),K.In s.heap→(us++ds).length=ps.length→BindsTo s fd ⟨us,[]⟩ (ps.zip (us++ds))
theorem Binds.all {K:PySem.W.Frag}{fd:FuncData}{ps:List Str} (h:∀us:List Value,us.length=ps.length→bindArgs fd ⟨us,[]⟩=pure (ps.zip us)):Binds K fd ps []:=fun s us _ hl=>by
 rw[qA0] at hl ⊢
 exact .of_eq (h us hl)
def Cq (CX:CXT)(X:Cx)(E:XK):Prop:=∀(pins:List (Addr×Obj))(σ:St)(H:Hp)(s:Shared)(e:Value)(s':Shared),Inv X pins σ H s→CX X.stack H s E e s'→X.xe e s'
section
variable {X:Cx}{CX:CXT}{k:Nat}{f C:Addr}{fd:FuncData}{ps:List Str}{sp:Sp}{dvs:List V}{ds:List Value}{E:XK}{x m:Str}{p pos apos:Pos}{e o:Expr}{es:List Expr}{ta:TE}{t:TA}
theorem Hj {pins:List (Addr×Obj)}{σ:St}{H:Hp}{s:Shared}{Q:VK}{us:List Value}{vs:List V} (F:AJ X.prog X.w X.K X.mg X.base CX k f fd ps sp) (hr:Be k X.A) (hb:Binds X.K fd ps ds) (hd:AA dvs ds) (hx:Cq CX X E)
 (I:Inv X pins σ H s) (r:AA vs us) (h:sp (vs++dvs) H Q E):wpAny (model X.prog X.w) X.A (call (.ref f) us) (EP X pins σ Q) X.xe s:=by
 have r2:AA (vs++dvs) (us++ds):=r.append hd
 have hl:(us++ds).length=ps.length:=by rw[←r2.length];exact F.len _ _ _ _ h
 refine wpAny_call (codeAny_mono (F.run X.A X.stack s H ⟨us,[]⟩ (us++ds) (vs++dvs) Q E hr I.env0 (hb s us I.kIn hl) r2 h) fun r s' hq=>?_)
 cases r with
 |error e=>exact hx pins σ H s e s' I hq
 |ok fl =>
  cases fl with
  |ret u=>exact I.after hq
  |next=>exact False.elim hq
  |brk=>exact False.elim hq
  |cont=>exact False.elim hq
theorem KR (F:AJ X.prog X.w X.K X.mg X.base CX k f fd ps sp)(hr:Be k X.A)(hg:Gl X x)(hm:X.mg x=some (.ref f))(hk:PySem.W.keepIn X.K (.ref f)=true)(hb:Binds X.K fd ps ds)(hd:AA dvs ds)(hx:Cq CX X E)
 (ha:PA X (e::es) t)(hdb:(x==("__debug__":Str))=false:=by decide)(he:starEach (e::es) X.env=(false,eval e X.env)::starEach es X.env:=by rfl)(hpl:(backTo pos (starEach es X.env)).any (·.1)=false:=by rfl) :
 PE X (.Call (.Name x p) (e::es) [] pos) (Rb sp dvs E t):=by
 intro pins s σ H Q I h
 refine wpAny_Call_Name_kw (Bv I hg hm ?_ hdb)
 refine qBj (h₀:=X.base) I.ok.mod.kin hk (thn (ha pos pins s σ H _ I h) fun us s1 ⟨vs,H1,I1,r,q⟩=>⟨I1.kIn,?_⟩) he hpl
 exact Hj F hr hb hd hx I1 r q
theorem Tr (F:AJ X.prog X.w X.K X.mg X.base CX k f fd ps sp)(hr:Be k X.A)(hg:Gl X x)(hm:X.mg x=some (.ref f))(hk:PySem.W.keepIn X.K (.ref f)=true)(hb:Binds X.K fd ps ds)(hd:AA dvs ds)(hx:Cq CX X E)
 (hdb:(x==("__debug__":Str))=false:=by decide):PE X (.Call (.Name x p) [] [] pos) (Rb sp dvs E OI):=by
 intro pins s σ H Q I h
 refine wpAny_Call_Name_kw (Bv I hg hm ?_ hdb)
 exact qCa I.kIn hk (Hj (us:=[]) F hr hb hd hx I .nil h)
theorem T8 {pl:Sem Bool} (he:PE X o ta) (c:Cls X.K C) (hm:Qs X.K C m f) (F:AJ X.prog X.w X.K X.mg X.base CX k f fd ps sp) (hr:Be k X.A) (hb:Binds X.K fd ps ds) (hd:AA dvs ds) (hx:Cq CX X E) (ha:PA X (e::es) t)
 (hst:starEach (e::es) X.env=(false,eval e X.env)::starEach es X.env:=by rfl) (hpl:(backTo pos (starEach es X.env)).any (·.1)=false:=by rfl)
 (ht:eval (.Call (.Attribute o m apos) (e::es) [] pos) X.env=(do
  let ov ←eval o X.env
  standAt apos.atName
  let (f,first) ←holding [ov] (getMethod ov m pl)
  callWith pos f first (backTo pos (starEach (e::es) X.env)) (backToKw pos (keywordEach [] X.env))):=by rfl) :
 PE X (.Call (.Attribute o m apos) (e::es) [] pos) (QP C m sp dvs E ta t):=by
 intro pins s σ H Q I h
 refine qBB (pl:=pl) (thn (he pins s σ H _ I h) fun u s1 ⟨x,H1,I1,rx,a,dx,fs,ex,ea,l,q⟩=>?_) ht
 subst ex
 obtain rfl:u=Value.ref a:=rx
 refine DL I1 ea c hm l ?_
 refine qBj (first:=[.ref a]) (h₀:=X.base) I.ok.mod.kin hm.kp (thn (ha pos pins s1 σ H1 _ I1 q) fun us s2 ⟨vs,H2,I2,r,q2⟩=>⟨I2.kIn,?_⟩) hst hpl
 exact Hj (us:=.ref a::us) (vs:=.ref a::vs) F hr hb hd hx I2 (.cons rfl r) q2
theorem M8 {pl:Sem Bool} (he:PE X o ta) (c:Cls X.K C) (hm:Qs X.K C m f) (F:AJ X.prog X.w X.K X.mg X.base CX k f fd ps sp) (hr:Be k X.A) (hb:Binds X.K fd ps ds) (hd:AA dvs ds) (hx:Cq CX X E)
 (ht:eval (.Call (.Attribute o m apos) [] [] pos) X.env=(do
  let ov ←eval o X.env
  standAt apos.atName
  let (f,first) ←holding [ov] (getMethod ov m pl)
  callWith pos f first (backTo pos (starEach [] X.env)) (backToKw pos (keywordEach [] X.env))):=by rfl) :
 PE X (.Call (.Attribute o m apos) [] [] pos) (QP C m sp dvs E ta OI):=by
 intro pins s σ H Q I h
 refine qBB (pl:=pl) (thn (he pins s σ H _ I h) fun u s1 ⟨x,H1,I1,rx,a,dx,fs,ex,ea,l,q⟩=>?_) ht
 subst ex
 obtain rfl:u=Value.ref a:=rx
 refine DL I1 ea c hm l ?_
 exact qCa (first:=[.ref a]) I1.kIn hm.kp (Hj (us:=[.ref a]) (vs:=[.ref a]) F hr hb hd hx I1 (.cons rfl .nil) q)
structure Mk (K:PySem.W.Frag)(C f:Addr):Prop where
 makes:PySem.W.makesIn K C=true
 init:PySem.W.findIn K (.ref C) "__init__"=some (some (.ref f))
 fn:PySem.W.isFn K (.ref f)=true
 kp:PySem.W.keepIn K (.ref C)=true
theorem Jk {pins:List (Addr×Obj)}{σ:St}{H:Hp}{s:Shared}{Q:VK}{us:List Value}{vs:List V} (M:Mk X.K C f) (F:AJ X.prog X.w X.K X.mg X.base CX k f fd ps sp) (hr:Be (k+1) X.A) (hb:Binds X.K fd ps ds) (hd:AA dvs ds)
 (hx:Cq CX X E) (I:Inv X pins σ H s) (r:AA vs us)
 (h:∀x dx,H x=none→H dx=none→dx≠x→sp (.ref x::(vs++dvs)) (upd (upd H dx (.own x)) x (.ins C dx [])) (fun v H2=>v=.non∧Q (.ref x) H2) E) :
 wpAny (model X.prog X.w) X.A (call (.ref C) us) (EP X pins σ Q) X.xe s:=by
 have hq:=h (s.heap.objs.size+1) s.heap.objs.size (I.hok.fresh (qA4 _)) (I.hok.fresh (qAg _)) (qAo (qB2 _))
 have I2:=Inv.made (C:=C) I
 have r2:AA (V.ref (s.heap.objs.size+1)::(vs++dvs)) (Value.ref (s.heap.objs.size+1)::(us++ds)):=.cons rfl (r.append hd)
 have hl:(Value.ref (s.heap.objs.size+1)::us++ds).length=ps.length:=by
  have e:=r2.length
  rw[F.len _ _ _ _ hq] at e
  exact e.symm
 refine wpAny_call (Nd (f:=f) I.kIn M.makes M.init (beq_iff_eq.mp M.fn) (codeAny_mono (F.run _ X.stack _ _ ⟨Value.ref (s.heap.objs.size+1)::us,[]⟩ (Value.ref (s.heap.objs.size+1)::(us++ds)) _ _ E (hr.make C us [])
  (I2.env0.make C us []) (hb _ (Value.ref (s.heap.objs.size+1)::us) I2.kIn hl) r2 hq) fun r s' hq'=>?_))
 cases r with
 |error e=>exact hx pins σ _ _ e s' I2 hq'
 |ok fl =>
  cases fl with
  |ret u =>
   obtain⟨v,H',I3,rv,ev,q3⟩:=I2.after hq'
   subst ev
   exact⟨rv,⟨V.ref (s.heap.objs.size+1),H',I3,rfl,q3⟩⟩
  |next=>exact False.elim hq'
  |brk=>exact False.elim hq'
  |cont=>exact False.elim hq'
theorem Lb (M:Mk X.K C f)(F:AJ X.prog X.w X.K X.mg X.base CX k f fd ps sp)(hr:Be (k+1) X.A)(hg:Gl X x)(hm:X.mg x=some (.ref C))(hb:Binds X.K fd ps ds)(hd:AA dvs ds)(hx:Cq CX X E)
 (ha:PA X (e::es) t)(hdb:(x==("__debug__":Str))=false:=by decide)(he:starEach (e::es) X.env=(false,eval e X.env)::starEach es X.env:=by rfl)(hpl:(backTo pos (starEach es X.env)).any (·.1)=false:=by rfl) :
 PE X (.Call (.Name x p) (e::es) [] pos) (QN C sp dvs E t):=by
 intro pins s σ H Q I h
 refine wpAny_Call_Name_kw (Bv I hg hm ?_ hdb)
 refine qBj (h₀:=X.base) I.ok.mod.kin M.kp (thn (ha pos pins s σ H _ I h) fun us s1 ⟨vs,H1,I1,r,q⟩=>⟨I1.kIn,?_⟩) he hpl
 exact Jk M F hr hb hd hx I1 r q
theorem TJ (M:Mk X.K C f)(F:AJ X.prog X.w X.K X.mg X.base CX k f fd ps sp)(hr:Be (k+1) X.A)(hg:Gl X x)(hm:X.mg x=some (.ref C))(hb:Binds X.K fd ps ds)(hd:AA dvs ds)(hx:Cq CX X E)
 (hdb:(x==("__debug__":Str))=false:=by decide):PE X (.Call (.Name x p) [] [] pos) (QN C sp dvs E OI):=by
 intro pins s σ H Q I h
 refine wpAny_Call_Name_kw (Bv I hg hm ?_ hdb)
 exact qCa I.kIn M.kp (Jk (us:=[]) M F hr hb hd hx I .nil h)
end
def PK (X:Cx)(kws:List Keyword)(t:TA):Prop :=
 ∀(pos:Pos)(pins:List (Addr×Obj))(s:Shared)(σ:St)(H:Hp)(Q:List V→Hp→Prop),Inv X pins σ H s→t σ H Q→wpAny (model X.prog X.w) X.A (evalAll ((backToKw pos (keywordEach kws X.env)).map (·.2))) (AP X pins σ Q) X.xe s
section
variable {X:Cx}{CX:CXT}{k:Nat}{f C:Addr}{fd:FuncData}{ps ks:List Str}{sp:Sp}{E:XK}{x m:Str}{p pos apos kpos:Pos}{e o:Expr}{es:List Expr}{kws:List Keyword}{te ta:TE}{t tk:TA}{nm:Option Str}
theorem NO:PK X [] OI:=fun _ _ _ _ H Q I h=>wpAny_evalAll_nil ⟨[],H,I,.nil,h⟩
theorem Kd (ha:PE X e te)(hr:PK X kws t):PK X (⟨nm,e,kpos⟩::kws) (O0 te t):=by
 intro pos pins s σ H Q I h
 show wpAny _ _ (evalAll ((do let v ←eval e X.env;standAt pos;pure v)::(backToKw pos (keywordEach kws X.env)).map (·.2))) _ _ s
 refine wpAny_evalAll_cons (wpAny_bind (thn (ha pins s σ H _ I h) fun u s1 ⟨x,H1,I1,r1,q1⟩=>wpAny_bind (wpAny_standAt (wpAny_pure ?_))))
 exact thn (hr pos pins s1 σ H1 _ I1 q1) fun us s2 ⟨xs,H2,I2,r2,q2⟩=>⟨x::xs,H2,I2,.cons r1 r2,q2⟩
structure N8 (K:PySem.W.Frag)(fd:FuncData)(ps ks:List Str)(g:List Value→List Value→List Value)(gV:List V→List V→List V):Prop where
 to:∀(s:Shared)(us ws:List Value),K.In s.heap→(g us ws).length=ps.length→BindsTo s fd ⟨us,ks.zip ws⟩ (ps.zip (g us ws))
 rel:∀{vs:List V}{us:List Value}{zs:List V}{ws:List Value},AA vs us→AA zs ws→AA (gV vs zs) (g us ws)
def QU (sp:Sp)(gV:List V→List V→List V)(E:XK)(t tk:TA):TE:=fun σ H Q=>t σ H fun vs H1=>tk σ H1 fun zs H2=>sp (gV vs zs) H2 Q E
variable {g:List Value→List Value→List Value}{gV:List V→List V→List V}
theorem Pc {pins:List (Addr×Obj)}{σ:St}{H:Hp}{s:Shared}{Q:VK}{us ws:List Value}{vs zs:List V} (F:AJ X.prog X.w X.K X.mg X.base CX k f fd ps sp) (hr:Be k X.A) (hb:N8 X.K fd ps ks g gV) (hx:Cq CX X E)
 (I:Inv X pins σ H s) (r:AA vs us) (rz:AA zs ws) (h:sp (gV vs zs) H Q E):wpAny (model X.prog X.w) X.A (call (.ref f) us (ks.zip ws)) (EP X pins σ Q) X.xe s:=by
 have r2:=hb.rel r rz
 have hl:(g us ws).length=ps.length:=by rw[←r2.length];exact F.len _ _ _ _ h
 refine wpAny_call (codeAny_mono (F.run X.A X.stack s H ⟨us,ks.zip ws⟩ (g us ws) (gV vs zs) Q E hr I.env0 (hb.to s us ws I.kIn hl) r2 h) fun r s' hq=>?_)
 cases r with
 |error e=>exact hx pins σ H s e s' I hq
 |ok fl =>
  cases fl with
  |ret u=>exact I.after hq
  |next=>exact False.elim hq
  |brk=>exact False.elim hq
  |cont=>exact False.elim hq
theorem Tb (F:AJ X.prog X.w X.K X.mg X.base CX k f fd ps sp)(hr:Be k X.A)(hg:Gl X x)(hm:X.mg x=some (.ref f))(hk:PySem.W.keepIn X.K (.ref f)=true)(hb:N8 X.K fd ps ks g gV)(hx:Cq CX X E)
 (ha:PA X (e::es) t)(hkw:PK X kws tk)(hall:(backToKw pos (keywordEach kws X.env)).all (·.1.isSome)=true:=by rfl)(hks:(backToKw pos (keywordEach kws X.env)).filterMap (·.1)=ks:=by rfl)
 (hdb:(x==("__debug__":Str))=false:=by decide)(he:starEach (e::es) X.env=(false,eval e X.env)::starEach es X.env:=by rfl)
 (hpl:((backTo pos (starEach (e::es) X.env)).any (·.1)||(backToKw pos (keywordEach kws X.env)).any (·.1.isNone))=false:=by rfl) :
 PE X (.Call (.Name x p) (e::es) kws pos) (QU sp gV E t tk):=by
 intro pins s σ H Q I h
 refine wpAny_Call_Name_kw (Bv I hg hm ?_ hdb)
 refine PySem.W.callWith_KW (h₀:=X.base) I.ok.mod.kin hk hall (thn (ha pos pins s σ H _ I h) fun us s1 ⟨vs,H1,I1,r,q⟩=>?_) hpl he
 refine thn (hkw pos pins s1 σ H1 _ I1 q) fun ws s2 ⟨zs,H2,I2,rz,q2⟩=>⟨I2.kIn,?_⟩
 rw[hks]
 exact Pc F hr hb hx I2 r rz q2
end
structure Av (N P:List Str)(sc:Scope):Prop where
 kind:sc.kind=.function
 co:sc.isCoroutine=false
 gen:sc.isGenerator=false
 nd:N.Nodup
 pre:N.take P.length=P
 par:∀x∈P,sc.names.lookup x=some .local∨sc.names.lookup x=some .cell
 nofree:∀y∈sc.names,y.2≠.free
theorem G8 {kindOf:Str→Option NameKind}{x:Str}:∀{binds:List (Str×Value)}{m:Str→Option Value},(∀v,(x,v)∉binds)→bindL kindOf binds m x=m x
 |[],_,_=>rfl
 |(n,v)::r,m,h=>by
  unfold bindL
  rw[G8 fun w hw=>h w (qAi _ hw)]
  split
  ·have:x≠n:=by rintro rfl;exact h v qAt
   simp[this]
  ·rfl
theorem Hi {kindOf:Str→Option NameKind}{x:Str}:∀{binds:List (Str×Value)}{m:Str→Option Value},(∀v,(x,v)∉binds)→bindC kindOf binds m x=m x
 |[],_,_=>rfl
 |(n,v)::r,m,h=>by
  unfold bindC
  rw[Hi fun w hw=>h w (qAi _ hw)]
  split
  ·rfl
  ·have:x≠n:=by rintro rfl;exact h v qAt
   simp[this]
theorem Hz {kindOf:Str→Option NameKind}{x:Str}{v:Value}:∀{P:List Str}{vs:List Value}{i:Nat}{m:Str→Option Value},P.Nodup→P[i]? = some x→vs[i]? = some v→kindOf x=some .local →
 bindL kindOf (P.zip vs) m x=some v
 |[],_,_,_,_,h,_,_=>by simp at h
 |_::_,[],_,_,_,_,h,_=>by simp at h
 |p::P,w::vs,0,m,nd,h1,h2,hk=>by
  simp at h1 h2;subst h1;subst h2
  show bindL kindOf ((p,w)::P.zip vs) m p=_
  unfold bindL
  rw[G8 fun v hv=>(qBu.mp nd).1 (qBO hv).1,if_pos hk]
  simp
 |p::P,w::vs,i+1,m,nd,h1,h2,hk=>by
  show bindL kindOf ((p,w)::P.zip vs) m x=_
  unfold bindL
  exact Hz (i:=i) (qBu.mp nd).2 (by simpa using h1) (by simpa using h2) hk
theorem G5 {kindOf:Str→Option NameKind}{x:Str}{v:Value}:∀{P:List Str}{vs:List Value}{i:Nat}{m:Str→Option Value},P.Nodup→P[i]? = some x→vs[i]? = some v→kindOf x≠some .local →
 bindC kindOf (P.zip vs) m x=some v
 |[],_,_,_,_,h,_,_=>by simp at h
 |_::_,[],_,_,_,_,h,_=>by simp at h
 |p::P,w::vs,0,m,nd,h1,h2,hk=>by
  simp at h1 h2;subst h1;subst h2
  show bindC kindOf ((p,w)::P.zip vs) m p=_
  unfold bindC
  rw[Hi fun v hv=>(qBu.mp nd).1 (qBO hv).1,if_neg hk]
  simp
 |p::P,w::vs,i+1,m,nd,h1,h2,hk=>by
  show bindC kindOf ((p,w)::P.zip vs) m x=_
  unfold bindC
  exact G5 (i:=i) (qBu.mp nd).2 (by simpa using h1) (by simpa using h2) hk
def start (N:List Str)(vs:List V):St:=vs.map some++List.replicate (N.length-vs.length) none
def Fn (CX:CXT)(P:Program)(w:World)(K:PySem.W.Frag)(mg:Str→Option Value)(base:Heap)(N:List Str)(qual:Str)(scope:Scope)(f:Addr)(cd:Value)(A:Around)(outer:List Env)(s:Shared)(H:Hp)(E:XK):Cx where
 prog:=P
 w:=w
 K:=K
 mg:=mg
 base:=base
 A:=A.deeper (envOfC qual scope s.heap.objs.size f cd)
 N:=N
 s₀:=s
 H₀:=H
 env:=envOfC qual scope s.heap.objs.size f cd
 outer:=outer
 stack:=envOfC qual scope s.heap.objs.size f cd::outer
 ex:=[]
 calm:=true
 fn:=fun _=>true
 pn:=[]
 xe:=fun e s'=>wpAny (model P w) (A.deeper (envOfC qual scope s.heap.objs.size f cd)) (leaving (envOfC qual scope s.heap.objs.size f cd) e) (fun _ s''=>CX outer H s E e s'') (fun e' s''=>CX outer H s E e' s'') s'
theorem Jg {sc:Scope}{n:Nat}{x:Str} (h:sc.names.lookup x=some .cell):∃c,(cellsFrom n sc.names []).lookup x=some c:=by
 have q:=qB0 sc.names n [] (.inl h)
 exact qBR.mp q
theorem GW {CX:CXT}{P:Program}{w:World}{K:PySem.W.Frag}{mg:Str→Option Value}{base:Heap}{N ps:List Str}{qual:Str}{scope:Scope}{f:Addr}{cd:Value}{A:Around}{outer:List Env}{s s1:Shared}{H:Hp}{E:XK}{us:List Value}{vs:List V}
 (S:Av N ps scope) (hd:A.handled=none) (e0:JA P w K mg base A outer s H) (hl:vs.length=ps.length) (r:AA vs us)
 (x:InCallC s s.heap.objs.size (bindL (envOfC qual scope s.heap.objs.size f cd).kindOf (ps.zip us) fun _=>none) (cellsFrom (s.heap.objs.size+1) scope.names []) (bindC (envOfC qual scope s.heap.objs.size f cd).kindOf (ps.zip us) fun _=>none) s1) :
 Inv (Fn CX P w K mg base N qual scope f cd A outer s H E) [] (start N vs) H s1:=by
 have hpl:ps.length≤N.length:=by have:=congrArg List.length S.pre;rw[qAu] at this;omega
 obtain⟨h1,tk,rfl,hk⟩:=x.done
 have noA:∀b:Addr,b∉(Fn CX P w K mg base N qual scope f cd A outer s H E).ex:=fun b z=>absurd (show b∈([]:List Addr) from z) (by simp)
 refine⟨⟨e0.mod,S.kind,rfl,rfl,qAg _,fun y z c h1 h2=>?_,fun y hy=>?_,fun y c _ h=>?_,fun _=>hd,Around.frames_deeper e0.frames,.inr ⟨rfl,rfl⟩,fun b z=>absurd z (noA b),e0.bs,e0.bsz,fun b _ _=>noA b,fun b z=>absurd z (noA b),e0.funs,e0.frf,e0.tb⟩,
  rfl,e0.bare,Un.kept hk,⟨_,x.toInCall.ns,fun i y v h1 h2 h3=>?_⟩,fun y c h=>⟨_,x.cell y c h⟩,e0.hok.fresh (qAg _),fun y c h=>?_,fun p hp=>absurd (show p∈([]:List (Addr×Obj)) from hp) (by simp),e0.hok.kept hk,?_⟩
 ·exact name_of_addr x.apart (PySem.mem_of_lookup h1) (PySem.mem_of_lookup h2)
 ·have hy:scope.names.lookup y=some .cell∨scope.names.lookup y=some .free:=hy
  rcases hy with hy|hy
  ·exact Jg hy
  ·exact absurd rfl (S.nofree _ (PySem.mem_of_lookup hy))
 ·exact qBi (x.above y c (PySem.mem_of_lookup h))
 ·have hi:i<vs.length:=by
   unfold start at h2
   by_cases hi:i<vs.length
   ·exact hi
   ·rw[qAL (by simpa using hi)] at h2
    rw[qBX] at h2
    split at h2<;>cases h2
  have ha:vs[i]? = some v:=by
   unfold start at h2
   rw[qAI (by simpa using hi),qAl] at h2
   cases e:vs[i]? with
   |none=>rw[e] at h2;cases h2
   |some a=>rw[e] at h2;cases h2;rfl
  obtain⟨u,hu,rv⟩:=r.get ha
  have hp:ps[i]? = some y:=by
   rw[←S.pre,List.getElem?_take_of_lt ()];exact h1
  have ndP:ps.Nodup:=by rw[←S.pre];exact S.nd.sublist (List.take_sublist _ _)
  refine⟨u,rv,?_⟩
  rcases S.par y (qAy hp) with k|k
  ·exact .inl ⟨k,Hz ndP hp hu k⟩
  ·obtain⟨c,e⟩:=Jg (n:=s.heap.objs.size+1) k
   refine .inr ⟨.inl k,c,e,?_⟩
   have q:=x.cell y c e
   rw[G5 ndP hp hu (by show scope.names.lookup y≠_;rw[k];decide)] at q
   exact q
 ·exact e0.hok.fresh (qBi (x.above y c (PySem.mem_of_lookup h)))
 ·unfold start
  show _=N.length
  rw[qAa,qAf,qCH]
  omega
theorem JF {CX:CXT}{P:Program}{w:World}{K:PySem.W.Frag}{mg:Str→Option Value}{base:Heap}{k:Nat}{f:Addr}{name qual:Str}{params:Arguments}{body:List Stmt}{scope:Scope}{dV kV doc pm cdv ct oc:Value}{an od:Option Addr}
 {osl:Array (Option Value)}{N ps:List Str}{sp:Sp} (lk:K.lookup f=some ⟨oc,od,.func (PySem.W.fnOf name qual params body scope dV kV doc pm an cdv ct),osl⟩) (hcd:PySem.W.codeIn K cdv qual=true) (S:Av N ps scope)
 (len:∀vs H Q E,sp vs H Q E→vs.length=ps.length)
 (hbody:∀(A:Around)(outer:List Env)(s:Shared)(H:Hp)(vs:List V)(Q:VK)(E:XK),Be k (A.deeper (envOfC qual scope s.heap.objs.size f cdv))→sp vs H Q E →
  ∃t,PSs (Fn CX P w K mg base N qual scope f cdv A outer s H E) body t∧t { nx:=fun _ H'=>Q .non H',rt:=Q } (start N vs) H) :
 AJ P w K mg base CX (k+1) f (PySem.W.fnOf name qual params body scope dV kV doc pm an cdv ct) ps sp:=by
 refine⟨len,fun A outer s H args us vs Q E hr e0 hb r hsp=>?_⟩
 have hl:=len _ _ _ _ hsp
 have KX:K.In s.heap:=e0.mod.kin.keeps fun b o e=>(e0.bs b o e).1
 have lim:s.heap.NoLimit:=e0.mod.nolimit.keeps fun b o e=>(e0.bs b o e).1
 have hkind:∀y∈ps.zip us,scope.names.lookup y.1=some .local∨(scope.names.lookup y.1=some .cell∧((cellsFrom (s.heap.objs.size+1) scope.names []).lookup y.1).isSome=true):=fun⟨n,v⟩ hy=>by
  rcases S.par n (qBO hy).1 with q|q
  ·exact .inl q
  ·exact .inr ⟨q,qB0 _ _ _ (.inl q)⟩
 refine codeAny_call_function hr.depth (KX _ _ lk) rfl S.co S.gen rfl (PySem.W.codeRec_of KX hcd) (hb _ _ _ _ ?_)
 refine wpAny_newFunctionEnv_cells S.kind hkind fun env he s1 x=>?_
 subst he
 refine⟨lim.keeps x.toInCall.keep,codeAny_func ?_⟩
 obtain⟨t,ht,hq⟩:=hbody A outer s H vs Q E (hr.deeper _) hsp
 have I:Inv (Fn CX P w K mg base N qual scope f cdv A outer s H E) [] (start N vs) H s1:=GW S hr.hd e0 hl r x
 refine wpAny_mono (ht [] s1 (start N vs) H _ I hq) (fun fl s' hs=>?_) fun e s' hs=>hs
 have fin:∀{σ':St}{H':Hp}{v:V}{u:Value},Inv (Fn CX P w K mg base N qual scope f cdv A outer s H E) [] σ' H' s'→AN v u→Q v H'→CE outer P w H s Q u s' :=
  fun {σ' H' v u} J rv q=>⟨v,H',J.os,J.bare,J.base,J.hok,rv,q⟩
 cases fl with
 |ret u =>
  obtain⟨v,σ',H',J,rv,q⟩:=hs
  exact fin J rv q
 |next =>
  obtain⟨σ',H',J,q⟩:=hs
  exact fin (v:=V.non) (u:=Value.none) J rfl q
 |brk =>
  obtain⟨_,_,_,q⟩:=hs
  exact False.elim q
 |cont =>
  obtain⟨_,_,_,q⟩:=hs
  exact False.elim q
end L2
namespace L2
open PySem PySem.Spec PyProof.Rows
section
variable {X:Cx}{x:Str}{p pos:Pos}{e:Expr}{es:List Expr}{t:TA}{id T:String}{r:List V→Hp→VK→Prop}
def tCB (r:List V→Hp→VK→Prop)(t:TA):TE:=fun σ H Q=>t σ H fun vs H1=>r vs H1 Q
theorem Cj (hc:A7 X (.builtin id) r)(hg:Gl X x)(hm:X.mg x=none)(hv:bootBuiltins x=some (.builtin id))(ha:PA X (e::es) t)(hn:x≠"__name__":=by decide)(hdb:(x==("__debug__":Str))=false:=by decide)
 (he:starEach (e::es) X.env=(false,eval e X.env)::starEach es X.env:=by rfl)(hpl:(backTo pos (starEach es X.env)).any (·.1)=false:=by rfl):PE X (.Call (.Name x p) (e::es) [] pos) (tCB r t):=by
 intro pins s σ H Q I h
 refine wpAny_Call_Name_kw (B6 I hg hm hv ?_ hn hdb)
 exact qB9 (thn (ha pos pins s σ H _ I h) fun us s1 ⟨vs,H1,I1,r1,q1⟩=>hc pins s1 σ H1 vs us Q I1 r1 q1) he hpl
theorem Cs (hc:A7 X (.type T) r)(hg:Gl X x)(hm:X.mg x=none)(hv:bootBuiltins x=some (.type T))(ha:PA X (e::es) t)(hn:x≠"__name__":=by decide)(hdb:(x==("__debug__":Str))=false:=by decide)
 (he:starEach (e::es) X.env=(false,eval e X.env)::starEach es X.env:=by rfl)(hpl:(backTo pos (starEach es X.env)).any (·.1)=false:=by rfl):PE X (.Call (.Name x p) (e::es) [] pos) (tCB r t):=by
 intro pins s σ H Q I h
 refine wpAny_Call_Name_kw (B6 I hg hm hv ?_ hn hdb)
 exact qAX (thn (ha pos pins s σ H _ I h) fun us s1 ⟨vs,H1,I1,r1,q1⟩=>hc pins s1 σ H1 vs us Q I1 r1 q1) he hpl
theorem Qq (hc:A7 X (.type T) r)(hg:Gl X x)(hm:X.mg x=none)(hv:bootBuiltins x=some (.type T))(hn:x≠"__name__":=by decide)(hdb:(x==("__debug__":Str))=false:=by decide) :
 PE X (.Call (.Name x p) [] [] pos) (tCB r OI):=by
 intro pins s σ H Q I h
 refine wpAny_Call_Name_kw (B6 I hg hm hv ?_ hn hdb)
 exact PyProof.Rows.callWith_type0 (hc pins s σ H [] [] Q I .nil h)
end
end L2
namespace HT
open PySem PyProof.Rows
def lexLt:List Int→List Int→Bool
 |[],[]=>false
 |[],_::_=>true
 |_::_,[]=>false
 |x::xs,y::ys=>if x=y then lexLt xs ys else decide (x<y)
theorem JE (x y:Int)(xs ys:List Int):lexLt (x::xs) (y::ys)=if x=y then lexLt xs ys else decide (x<y):=rfl
theorem FC:lexLt [] []=false:=rfl
theorem ES (y:Int)(ys:List Int):lexLt [] (y::ys)=true:=rfl
theorem ER (x:Int)(xs:List Int):lexLt (x::xs) []=false:=rfl
theorem MR (A:Around)(s:Shared)(a:Int)(t:Tok)(c:Int)(u:Tok):∃e,SeqAt.EqAt A s (.int a t) (.int c u) e∧(e=true ↔ a=c) :=
 ⟨(a==c),SeqAt.EqAt.int_int a t c u,by simp⟩
theorem NA (A:Around)(s:Shared)(a:Int)(t:Tok)(c:Int)(u:Tok)(prog:Program)(w:World)(E:Value→Shared→Prop)(Q:Value→Shared→Prop)(h:Q (.bool (decide (a<c))) s) :
 wpAny (model prog w) A (richCompare .Lt (.int a t) (.int c u)) Q E s :=
 (PyProof.Rows.lt_int h:wpAny (model prog w) A (compareOp .Lt (.int a t) (.int c u)) Q E s)
section
open PySem.SeqAt
open PySem.AutoSeq1 (wpAny_loadPart')
open PySem.MeetsSeq PySem.MeetsSeq2 PySem.MeetsSeq3
theorem F2 (l b:Addr)(items items2:Array Value)(n n2:Nat)(dd dd2:Option Addr)(sl sl2:Array (Option Value))(ns ms:List Int)(hi:IntsAre items.toList ns)(hj:IntsAre items2.toList ms) :
 Meets (Builtin.«tuple.__lt__» ⟨[.ref l,.ref b],[]⟩)
  (fun _ R s=>s.heap.get? l=some { cls:=.type "tuple",dict:=dd,data:=.seq items n,slots:=sl }∧s.heap.get? b=some { cls:=.type "tuple",dict:=dd2,data:=.seq items2 n2,slots:=sl2 } ∧
   R (.ok (.ret (.bool (lexLt ns ms)))) s) :=
 .of_wp fun prog w A R s h=>by
  obtain⟨hp,g,d,tk,os⟩:=s;obtain⟨hl,hb,h⟩:=h
  have f2:=AutoSeq1.sub_tuple_tuple
  have z1:items.size=ns.length:=by rw[←hi.length];simp
  have z2:items2.size=ms.length:=by rw[←hj.length];simp
  wp_walk using wpAny_loadPart' hl,wpAny_loadPart' hb,wpAny_forIn_list _ (fun Cp b s'=>b.1=none∧s'=⟨hp,g,d,tk,os⟩∧∃(vs ws:List Value)(ns' ms':List Int),Cp=vs.zip ws ∧
   IntsAre vs ns'∧IntsAre ws ms'∧ns'.length+items2.size=ms'.length+items.size∧R (.ok (.ret (.bool (lexLt ns' ms')))) ⟨hp,g,d,tk,os⟩) _
  case turn =>
   rintro⟨y,x⟩ Cp b s' ⟨hb',rfl,vs,ws,ns',ms',hz,hvi,hwi,hlen,hR⟩
   cases hvi with
   |nil=>rw[List.zip_nil_left] at hz;cases hz
   |cons a t hvi' =>
    cases hwi with
    |nil=>rw[List.zip_nil_right] at hz;cases hz
    |cons c u hwi' =>
     rw[qBS] at hz
     injection hz with hyx hrest
     injection hyx with hy hx
     subst hy hx
     rw[JE] at hR
     simp only[qAd] at hlen
     obtain⟨e,he,hiff⟩:=MR A.in1 ⟨hp,g,d,tk,os⟩ a t c u
     refine wpAny_bind (he prog w _ _ ?_)
     cases e with
     |true =>
      rw[if_pos (hiff.mp rfl)] at hR
      wp_walk
      exact⟨rfl,rfl,_,_,_,_,hrest,hvi',hwi',(),hR⟩
     |false =>
      rw[if_neg (fun q=>absurd (hiff.mpr q) qAe)] at hR
      have hri:=NA A.in1 ⟨hp,g,d,tk,os⟩ a t c u prog w
      wp_walk using hri
      exact⟨_,rfl,by simpa using hR⟩
  case fin =>
   rintro⟨b1,b2⟩ s' ⟨hb',rfl,vs,ws,ns',ms',hz,hvi,hwi,hlen,hR⟩
   simp only at hb'
   subst hb'
   have hv:lexLt ns' ms'=decide (items.size<items2.size):=by
    cases hvi with
    |nil =>
     cases hwi with
     |nil =>
      simp only[qAx] at hlen
      rw[FC]
      exact(decide_eq_false ()).symm
     |cons c u hw =>
      simp only[qAx,qAd] at hlen
      rw[ES]
      exact(decide_eq_true ()).symm
    |cons a t hv =>
     cases hwi with
     |nil =>
      simp only[qAx,qAd] at hlen
      rw[ER]
      exact(decide_eq_false ()).symm
     |cons c u hw =>
      rw[qBS] at hz
      cases hz
   rw[hv] at hR
   wp_walk
   exact⟨_,rfl,by simpa [Builtin.Tuple.tupleCompareSizes] using hR⟩
  case h =>
   exact⟨rfl,rfl,items.toList,items2.toList,ns,ms,rfl,hi,hj,(),h⟩
end
section
variable {prog:Program}{w:World}{A:Around}{E:Value→Shared→Prop}{s:Shared}
theorem lt_tupInts {l b:Addr}{items items2:Array Value}{ns ms:List Int}{Q:Value→Shared→Prop} (hl:IsTup s.heap l items) (hb:IsTup s.heap b items2) (hi:IntsAre items.toList ns) (hj:IntsAre items2.toList ms)
 (hu:A.units<cLine) (h:Q (.bool (lexLt ns ms)) s):wpAny (model prog w) A (compareOp .Lt (.ref l) (.ref b)) Q E s:=by
 obtain⟨⟨cls,dd,data,sl⟩,ho,hc,n,hd⟩:=id hl
 obtain⟨⟨cls2,dd2,data2,sl2⟩,ho2,hc2,n2,hd2⟩:=id hb
 simp only at hc hd hc2 hd2
 subst hc hd hc2 hd2
 exact richCompare_meets_room (op:=.Lt) ⟨_,ho,rfl⟩ ⟨_,ho2,rfl⟩ PySem.F.slot_tuple_lt PySem.F.entry_tuple_lt (PySem.F.args_tuple_lt_2 _ _) (F2 l b items items2 n n2 dd dd2 sl sl2 ns ms hi hj)
  ⟨ho,ho2,show Value.bool (lexLt ns ms)≠Value.notImplemented∧Q (.bool (lexLt ns ms)) s from ⟨(fun x=>nomatch x),h⟩⟩ hu
theorem cat_tup {t b:Addr}{vs ws:List Value}{Q:Value→Shared→Prop} (ht:IsTup s.heap t vs.toArray) (hb:IsTup s.heap b ws.toArray) (hv:vs≠[])
 (h1:ws=[]→Q (.ref t) s) (h2:ws≠[]→Q (.ref s.heap.objs.size) { s with heap:=s.heap.push { cls:=.type "tuple",data:=.seq (vs++ws).toArray } })
 (hsz:vs.length+ws.length≤sizeLine):wpAny (model prog w) A (binaryOp .Add (.ref t) (.ref b)) Q E s:=by
 obtain⟨⟨cls,dd,data,sl⟩,ho,hc,n,hd⟩:=id ht
 obtain⟨⟨cls2,dd2,data2,sl2⟩,ho2,hc2,n2,hd2⟩:=id hb
 simp only at hc hd hc2 hd2
 subst hc hd hc2 hd2
 have e:vs.toArray++ws.toArray=(vs++ws).toArray:=by simp
 by_cases hw:ws=[]
 ·exact concat_meets ⟨_,ho,rfl⟩ ⟨_,ho2,rfl⟩ noFill_tuple_add seq_tuple_add qCD qCA (qCs _ _)
   (tuple_addW1 t b vs.toArray ws.toArray n n2 dd dd2 sl sl2 (by simpa using hv) (by simp[hw])) ⟨ho,ho2,h1 hw⟩
 ·refine concat_meets ⟨_,ho,rfl⟩ ⟨_,ho2,rfl⟩ noFill_tuple_add seq_tuple_add qCD qCA (qCs _ _)
   (tuple_addW2 t b vs.toArray ws.toArray n n2 dd dd2 sl sl2 (by simpa using hv) (by simpa using hw) (by rw[qAk,qAk];exact hsz)) ⟨ho,ho2,?_⟩
  rw[e]
  exact h2 hw
def sIx (n d:Nat):Option Int→Nat
 |none=>d
 |some v=>if v<0 then (v+(n:Int)).toNat else min v.toNat n
theorem TH (n d:Nat):sIx n d none=d:=rfl
theorem Vi (n d k:Nat):sIx n d (some (k:Int))=min k n:=by
 show(if (k:Int)<0 then ((k:Int)+(n:Int)).toNat else min (k:Int).toNat n)=min k n
 rw[if_neg (),qAO]
theorem Sj (n d:Nat)(hd:d≤n)(o:Option Int):sIx n d o≤n:=by
 cases o with
 |none=>exact hd
 |some v =>
  show(if v<0 then (v+(n:Int)).toNat else min v.toNat n)≤n
  by_cases hv:v<0
  ·rw[if_pos hv];omega
  ·rw[if_neg hv];exact Nat.min_le_right _ _
theorem LJ (v:Int)(n d:Nat):(if v<0 then max (v+(n:Int)) 0 else min v (n:Int))=((sIx n d (some v):Nat):Int):=by
 show(if v<0 then max (v+(n:Int)) 0 else min v (n:Int))=(((if v<0 then (v+(n:Int)).toNat else min v.toNat n):Nat):Int)
 by_cases hv:v<0
 ·simp only[if_pos hv];omega
 ·simp only[if_neg hv];omega
theorem JY (lo hi:Option Int)(n:Nat):Builtin.Slice.sliceAdjust lo hi 1 (n:Int)=(((sIx n 0 lo:Nat):Int),((sIx n n hi:Nat):Int)):=by
 have h1:¬((1:Int)<0):=()
 unfold Builtin.Slice.sliceAdjust
 simp only[h1,if_false]
 refine Prod.ext ?_ ?_
 ·cases lo with
  |none=>rfl
  |some v=>exact LJ v n 0
 ·cases hi with
  |none=>rfl
  |some v=>exact LJ v n n
theorem Jo (i j:Nat):Builtin.Slice.slicePlaces (i:Int) (j:Int) 1=j-i:=by
 unfold Builtin.Slice.slicePlaces
 have h1:(1:Int)>0:=()
 simp only[h1,if_true,Int.ediv_one]
 split<;>omega
theorem E3 {v:Value}{o:Option Int}{Q:Option Int→Shared→Prop} (p:IsPart v o) (h:Q o s):wpAny (model prog w) A (Builtin.Slice.slicePartIndex v) Q E s:=by
 cases p with
 |none=>exact slicePart_none h
 |int i t=>exact slicePart_int h
theorem DU {sl:Addr}{vl vu:Value}{lo hi:Option Int}{n:Nat}{Q:Int×Int×Nat→Shared→Prop} (hs:s.heap.IsSliceOf sl vl vu .none) (pl:IsPart vl lo) (pu:IsPart vu hi)
 (h:Q (((sIx n 0 lo:Nat):Int),1,sIx n n hi-sIx n 0 lo) s):wpAny (model prog w) A (Builtin.Slice.sliceApplied (.ref sl) (pure (n:Int))) Q E s:=by
 obtain⟨os,hos,hcs,hds⟩:=id hs
 unfold Builtin.Slice.sliceApplied Builtin.Slice.sliceFields
 refine wpAny_bind (wpAny_bind (wpAny_field hos hds (x:=vl) rfl (wpAny_bind (wpAny_field hos hds (x:=vu) rfl (wpAny_bind (wpAny_field hos hds (x:=.none) rfl (wpAny_pure ?_)))))))
 refine wpAny_bind (slicePart_none ?_)
 show wpAny _ _ (if ((1:Int)==0)=true then _ else _) _ _ s
 rw[if_neg ∅]
 refine wpAny_bind (E3 pl (wpAny_bind (E3 pu (wpAny_bind (wpAny_pure ?_)))))
 show wpAny _ _ (match Builtin.Slice.sliceAdjust lo hi 1 (n:Int) with|(lo,hi)=>pure (lo,(1:Int),Builtin.Slice.slicePlaces lo hi 1)) _ _ s
 rw[JY lo hi n]
 show wpAny _ _ (pure (((sIx n 0 lo:Nat):Int),(1:Int),Builtin.Slice.slicePlaces ((sIx n 0 lo:Nat):Int) ((sIx n n hi:Nat):Int) 1)) _ _ s
 rw[Jo]
 exact wpAny_pure h
theorem Na (xs:Array Value)(i k:Nat):((List.range k).filterMap fun(m:Nat)=>xs[((i:Int)+(m:Int)*1).toNat]?).toArray=((xs.toList.drop i).take k).toArray:=by
 have e:(fun(m:Nat)=>xs[((i:Int)+(m:Int)*1).toNat]?)=fun m=>xs[i+m]? := by
  funext m
  have:((i:Int)+(m:Int)*1).toNat=i+m:=()
  rw[this]
 rw[e]
 have:=pick_run xs i k
 rw[List.filterMap_map] at this
 have e2:((fun x=>xs[x]?) ∘ fun x=>i+x)=fun m=>xs[i+m]? := rfl
 rw[e2] at this
 rw[this]
theorem getItem_tuple_cut {t sl:Addr}{items:Array Value}{vl vu:Value}{lo hi:Option Int}{Q:Value→Shared→Prop} (ht:IsTup s.heap t items) (hs:s.heap.IsSliceOf sl vl vu .none) (pl:IsPart vl lo) (pu:IsPart vu hi)
 (hw:¬(sIx items.size 0 lo=0∧sIx items.size items.size hi=items.size))
 (h:Q (.ref s.heap.objs.size) { s with heap:=s.heap.push { cls:=.type "tuple",data:=.seq ((items.toList.drop (sIx items.size 0 lo)).take (sIx items.size items.size hi-sIx items.size 0 lo)).toArray } })
 (hsz:items.size≤sizeLine):wpAny (model prog w) A (getItem (.ref t) (.ref sl)) Q E s:=by
 have htake:sizeOk (.seq ((items.toList.drop (sIx items.size 0 lo)).take (sIx items.size items.size hi-sIx items.size 0 lo)).toArray):=by
  show((items.toList.drop (sIx items.size 0 lo)).take (sIx items.size items.size hi-sIx items.size 0 lo)).toArray.size≤sizeLine
  rw[qAk,qAu,qAz,Array.length_toList]
  omega
 have hj:sIx items.size items.size hi≤items.size:=Sj _ _ (qAg _) hi
 obtain⟨os,hos,hcs,hds⟩:=id hs
 have hTs:s.TypeIs (.ref sl) "slice":=⟨os,hos,hcs⟩
 unfold getItem
 try with_reducible refine wpAny_holding ?_
 first|refine wpAny_bind (wpAny_pure ?_)|skip
 refine wpAny_bind (wpAny_sequenceKey ht.typeIs ∅ ?_)
 refine wpAny_bind (wpAny_callSpecial?_slot (name:=Str.ofString "__getitem__") ht.typeIs qB7
  (wpAny_call_entry qB7 ht.typeIs entry_tuple_getitem ?_ (args_tuple_getitem _ _)))
 show wpAny _ _ (Builtin.Tuple.tupleItemsOf (.ref t) >>= _) _ _ s
 refine wpAny_bind (tupleItemsOf_ ht ?_)
 refine wpAny_bind (wpAny_typeOf hTs ?_)
 rw[if_pos ∅]
 refine wpAny_bind (DU hs pl pu ?_)
 have hno:¬((((sIx items.size 0 lo:Nat):Int)==0&&(1:Int)==1&&(sIx items.size items.size hi-sIx items.size 0 lo)==items.size)=true):=by
  intro q
  rw[qAF,qAF] at q
  have q1:((sIx items.size 0 lo:Nat):Int)=0:=eq_of_beq q.1.1
  have q2:sIx items.size items.size hi-sIx items.size 0 lo=items.size:=eq_of_beq q.2
  exact hw ⟨(),()⟩
 show wpAny _ _ (if (((sIx items.size 0 lo:Nat):Int)==0&&(1:Int)==1&&(sIx items.size items.size hi-sIx items.size 0 lo)==items.size)=true then _ else _) _ _ s
 rw[if_neg hno,Na]
 first
  |exact wpAny_bind (m:=Builtin.Tuple.tupleExact _) (wpAny_newObj_type (wpAny_pure ⟨_,rfl,wpAny_pure h⟩) htake)
  |exact wpAny_bind (m:=Builtin.Tuple.tupleExact _) (wpAny_newObj_type (wpAny_bind (wpAny_pure (wpAny_pure ⟨_,rfl,wpAny_pure h⟩))) htake)
  |exact wpAny_bind (wpAny_bind (m:=Builtin.Tuple.tupleExact _) (wpAny_newObj_type (wpAny_pure (wpAny_pure ⟨_,rfl,wpAny_pure h⟩)) htake))
  |exact wpAny_bind (wpAny_bind (m:=Builtin.Tuple.tupleExact _) (wpAny_newObj_type (wpAny_pure ⟨_,rfl,wpAny_pure h⟩) htake))
end
end HT
namespace L2
open PySem PySem.Spec PyProof.Rows
abbrev TO:=St→Hp→(Option Int→Hp→Prop)→Prop
def PO (X:Cx)(e:Option Expr)(t:TO):Prop :=
 ∀(pins:List (Addr×Obj))(s:Shared)(σ:St)(H:Hp)(Q:Option Int→Hp→Prop),Inv X pins σ H s→t σ H Q →
  wpAny (model X.prog X.w) X.A (evalPart e X.env) (fun u s'=>∃o H',Inv X pins σ H' s'∧IsPart u o∧Q o H') X.xe s
def Qe:TO:=fun _ H Q=>Q none H
def Vm (t:TE):TO:=fun σ H Q=>t σ H fun x H1=>∃i,x=.int i∧Q (some i) H1
theorem Fg {ns:List Int}:∀{us:List Value},AA (ns.map V.int) us→IntsAre us ns:=by
 induction ns with
 |nil=>intro us r;rw[List.map_nil] at r;cases r;exact .nil
 |cons n ns ih =>
  intro us r
  rw[qA8] at r
  cases r with
  |cons r1 r2 =>
   obtain⟨t,e⟩:=r1
   subst e
   exact .cons n t (ih r2)
section
variable {X:Cx}{e:Expr}{te:TE}{lo hi:Option Expr}{tl th:TO}{pos p2:Pos}
theorem Pw:PO X none Qe:=by
 intro pins s σ H Q I h
 rw[evalPart_none]
 exact wpAny_pure ⟨none,H,I,.none,h⟩
theorem Ph (h:PE X e te):PO X (some e) (Vm te):=by
 intro pins s σ H Q I hw
 rw[evalPart_some]
 refine thn (h pins s σ H _ I hw) fun u s1 hh=>?_
 obtain⟨x,H1,I1,r1,q1⟩:=hh
 obtain⟨i,rfl,q⟩:=q1
 obtain⟨t,rfl⟩:=r1
 exact⟨some i,H1,I1,.int i t,q⟩
def SlR (X:Cx)(r:V→Option Int→Option Int→Hp→VK→Prop):Prop :=
 ∀(pins:List (Addr×Obj))(s:Shared)(σ:St)(H:Hp)(x:V)(v vl vu:Value)(lo hi:Option Int)(sl:Addr)(Q:VK),Inv X pins σ H s→AN x v→s.heap.IsSliceOf sl vl vu .none→IsPart vl lo→IsPart vu hi→r x lo hi H Q →
  ∃T id,typeLookup (.type T) "__getitem__"=pure (some (.builtin id))∧s.TypeIs v T∧wpAny (model X.prog X.w) X.A (getItem v (.ref sl)) (EP X pins σ Q) X.xe s
theorem SlR.or {r r':V→Option Int→Option Int→Hp→VK→Prop} (h:SlR X r) (h':SlR X r'):SlR X (fun x lo hi H Q=>r x lo hi H Q∨r' x lo hi H Q):=by
 intro pins s σ H x v vl vu lo hi sl Q I rx hs pl pu q
 rcases q with q|q
 ·exact h pins s σ H x v vl vu lo hi sl Q I rx hs pl pu q
 ·exact h' pins s σ H x v vl vu lo hi sl Q I rx hs pl pu q
def tSl (r:V→Option Int→Option Int→Hp→VK→Prop)(te:TE)(tl th:TO):TE:=fun σ H Q=>te σ H fun x H1=>tl σ H1 fun l H2=>th σ H2 fun u H3=>r x l u H3 Q
theorem IT {r:V→Option Int→Option Int→Hp→VK→Prop} (hr:SlR X r) (he:PE X e te) (hl:PO X lo tl) (hu:PO X hi th):PE X (.Subscript e (.Slice lo hi none p2) pos) (tSl r te tl th):=by
 intro pins s σ H Q I h
 refine Subscript_ (thn (he pins s σ H _ I h) fun v s1 hh=>?_)
 obtain⟨x,H1,I1,r1,q1⟩:=hh
 refine wpAny_Slice (thn (hl pins s1 σ H1 _ I1 q1) fun vl s2 ⟨l,H2,I2,pl,q2⟩=>thn (hu pins s2 σ H2 _ I2 q2) fun vu s3 hh=>?_)
 obtain⟨u,H3,I3,pu,q3⟩:=hh
 rw[evalPart_none]
 refine wpAny_pure ?_
 have I4:Inv X pins σ H3 { s3 with heap:=s3.heap.push { cls:=.type "slice",data:=.fields #[vl,vu,.none] } }:=I3.kept (t':=s3.toks) fun b ob q=>qAb _ q
 obtain⟨T,id,hT,ht,hg⟩:=hr pins { s3 with heap:=s3.heap.push { cls:=.type "slice",data:=.fields #[vl,vu,.none] } } σ H3 x v vl vu l u s3.heap.objs.size Q I4 r1 (Heap.IsSliceOf.new ..) pl pu q3
 show wpAny (model X.prog X.w) X.A (subscriptTail e (.Slice lo hi none p2) v (.ref s3.heap.objs.size)) (EP X pins σ Q) X.xe { s3 with heap:=s3.heap.push { cls:=.type "slice",data:=.fields #[vl,vu,.none] } }
 exact tail_any (ops:=[.ref s3.heap.objs.size,v]) ht hT hg (by with_unfolding_all rfl)
def J4 (xs:List V)(lo hi:Option Int):List V:=(xs.drop (HT.sIx xs.length 0 lo)).take (HT.sIx xs.length xs.length hi-HT.sIx xs.length 0 lo)
theorem Et (xs:List V)(lo hi:Option Int):(J4 xs lo hi).length≤xs.length:=by
 unfold J4
 rw[qAu,qAz]
 omega
def Yb (K:PySem.W.Frag):V→Option Int→Option Int→Hp→VK→Prop:=fun x lo hi H Q=>∃a xs,x=.ref a∧SqT K H a xs ∧
 ¬(HT.sIx xs.length 0 lo=0∧HT.sIx xs.length xs.length hi=xs.length)∧∀p,H p=none→Q (.ref p) (upd H p (.tup (J4 xs lo hi)))
theorem QM:SlR X (Yb X.K):=by
 intro pins s σ H x v vl vu lo hi sl Q I rx hs pl pu h
 obtain⟨a,xs,rfl,hx,hw,q⟩:=h
 cases rx
 obtain⟨its,r,ht,hz⟩:=I.tuple hx
 have hlen:its.toArray.size=xs.length:=by rw[qAk];exact r.length.symm
 refine⟨"tuple",_,PyProof.Rows.slot_tuple_getitem.lookup,ht.typeIs,?_⟩
 refine HT.getItem_tuple_cut ht hs pl pu (by rw[hlen];exact hw) ?_ (by rw[hlen];exact hz)
 rw[hlen]
 refine⟨.ref s.heap.objs.size,_,I.laid (t':=s.toks) (o:=.tup (J4 xs lo hi)) (fun b ob q=>qAb _ q) (qAg _) ?_,rfl,q _ (I.hok.fresh (qAg _))⟩
 exact⟨qAE (Et xs lo hi) hz,_,(r.drop (HT.sIx xs.length 0 lo)).take (HT.sIx xs.length xs.length hi-HT.sIx xs.length 0 lo),IsTup.new _ _⟩
def Zk (K:PySem.W.Frag):R2:=fun x y H Q=>∃a b ns ms,x=.ref a∧y=.ref b∧SqT K H a (ns.map V.int)∧SqT K H b (ms.map V.int)∧Q (.bl (HT.lexLt ns ms)) H
theorem Xe (hu:X.A.units<cLine):OpR X (compareOp .Lt) (Zk X.K):=by
 intro pins s σ H x y v u Q I rx ry h
 obtain⟨a,b,ns,ms,rfl,rfl,ha,hb,q⟩:=h
 cases rx
 cases ry
 obtain⟨its,r1,p1,_⟩:=I.tuple ha
 obtain⟨its2,r2,p2,_⟩:=I.tuple hb
 have i1:IntsAre its.toArray.toList ns:=Fg r1
 have i2:IntsAre its2.toArray.toList ms:=Fg r2
 exact HT.lt_tupInts p1 p2 i1 i2 hu ⟨.bl (HT.lexLt ns ms),H,I,rfl,q⟩
def Uc (K:PySem.W.Frag):R2:=fun x y H Q=>∃a b xs ys,x=.ref a∧y=.ref b∧SqT K H a xs∧SqT K H b ys∧xs≠[]∧xs.length+ys.length≤sizeLine ∧
 (ys=[]→Q (.ref a) H)∧(ys≠[]→∀p,H p=none→Q (.ref p) (upd H p (.tup (xs++ys))))
theorem AA.nil_iff {xs:List V}{us:List Value} (r:AA xs us):us=[] ↔ xs=[]:=by
 cases r with
 |nil=>simp
 |cons _ _=>simp
theorem PN:OpR X (binaryOp .Add) (Uc X.K):=by
 intro pins s σ H x y v u Q I rx ry h
 obtain⟨a,b,xs,ys,rfl,rfl,ha,hb,hx,hz,q1,q2⟩:=h
 cases rx
 cases ry
 obtain⟨its,r1,p1,_⟩:=I.tuple ha
 obtain⟨its2,r2,p2,_⟩:=I.tuple hb
 refine HT.cat_tup p1 p2 (fun z=>hx (r1.nil_iff.mp z)) (fun z=>⟨.ref a,H,I,rfl,q1 (r2.nil_iff.mp z)⟩) (fun z=>?_) (by rw[←r1.length,←r2.length];exact hz)
 refine⟨.ref s.heap.objs.size,_,I.laid (t':=s.toks) (o:=.tup (xs++ys)) (fun b ob q=>qAb _ q) (qAg _) ?_,rfl,q2 (fun w=>z (r2.nil_iff.mpr w)) _ (I.hok.fresh (qAg _))⟩
 exact⟨by rw[qAa];exact hz,_,r1.append r2,IsTup.new _ _⟩
theorem Pz:A7 X (.type "tuple") (fun xs H Q=>∃a ys,xs=[.ref a]∧SqT X.K H a ys∧Q (.ref a) H):=by
 intro pins s σ H xs us Q I r h
 obtain⟨a,ys,rfl,ha,q⟩:=h
 obtain⟨u,rfl,ru⟩:=Bd r
 cases ru
 obtain⟨its,_,p1,_⟩:=I.tuple ha
 exact call_tuple_same (items:=its.toArray) p1 ⟨.ref a,H,I,rfl,q⟩
end
end L2
namespace L2
open PySem PySem.Spec PyProof.Rows
def ixN (n:Nat)(i:Int):Option Nat:=if 0≤i then (if i<n then some i.toNat else none) else if -(n:Int)≤i then some (i+n).toNat else none
def atI {α:Type} (xs:List α) (i:Int):Option α:=(ixN xs.length i).bind fun j=>xs[j]?
theorem LG {n:Nat}{i:Int}{j:Nat} (h:ixN n i=some j):seqIndex? i n=some j∧j<n∧-(n:Int)≤i∧i<n:=by
 unfold ixN at h
 by_cases h0:0≤i
 ·rw[if_pos h0] at h
  by_cases h1:i<n
  ·rw[if_pos h1] at h
   have e:i.toNat=j:=qAn h
   exact⟨by rw[seqIndex_of h0 h1,e],(),(),h1⟩
  ·rw[if_neg h1] at h;cases h
 ·rw[if_neg h0] at h
  by_cases h1:-(n:Int)≤i
  ·rw[if_pos h1] at h
   have e:(i+n).toNat=j:=qAn h
   exact⟨by rw[seqIndex_neg () h1,e],(),h1,()⟩
  ·rw[if_neg h1] at h;cases h
theorem Ij {α:Type}{xs:List α}{i:Int}{v:α} (h:atI xs i=some v):∃j,seqIndex? i xs.length=some j∧xs[j]? = some v∧j<xs.length∧-(xs.length:Int)≤i∧i<xs.length:=by
 unfold atI at h
 cases e:ixN xs.length i with
 |none=>rw[e] at h;cases h
 |some j =>
  rw[e] at h
  obtain⟨h1,h2,h3,h4⟩:=LG e
  exact⟨j,h1,h,h2,h3,h4⟩
theorem Gh {α:Type}{xs:List α}{j:Nat}{v:α} (h:xs[j]? = some v):atI xs (j:Int)=some v:=by
 have hj:j<xs.length:=(qAj.mp h).1
 have e:ixN xs.length (j:Int)=some j:=by
  unfold ixN
  rw[if_pos (),if_pos ()];simp
 unfold atI;rw[e];exact h
theorem TQ {α:Type} (xs:List α) (v:α):atI (xs++[v]) (-1)=some v:=by
 have hl:(xs++[v]).length=xs.length+1:=by simp
 have e:ixN (xs++[v]).length (-1)=some xs.length:=by
  unfold ixN
  rw[hl,if_neg ∅,if_pos ()]
  congr 1
  omega
 unfold atI
 rw[e]
 show(xs++[v])[xs.length]? = some v
 simp
def Ic (b:Expr):Prop:=∀o i,subscripted b false o i=operate [o,i] (getItem o i)
def IxR (X:Cx)(r:R2):Prop :=
 ∀(value slice:Expr)(pins:List (Addr×Obj))(s:Shared)(σ:St)(H:Hp)(x y:V)(v u:Value)(Q:VK),Inv X pins σ H s→AN x v→AN y u→r x y H Q →
  subscripted slice false v u=operate [v,u] (getItem v u)→wpAny (model X.prog X.w) X.A (subscriptTail value slice v u) (EP X pins σ Q) X.xe s
def MtR (X:Cx)(id:String)(r:V→List V→Hp→VK→Prop):Prop :=
 ∀(pins:List (Addr×Obj))(s:Shared)(σ:St)(H:Hp)(x:V)(xs:List V)(v:Value)(us:List Value)(Q:VK),Inv X pins σ H s→AN x v→AA xs us→r x xs H Q →
  wpAny (model X.prog X.w) X.A (call (.builtin id) (v::us)) (EP X pins σ Q) X.xe s
section
variable {X:Cx}{a b:Expr}{ta tb:TE}{pos:Pos}
theorem IxR.or {r r':R2} (h:IxR X r) (h':IxR X r'):IxR X (fun x y H Q=>r x y H Q∨r' x y H Q):=by
 intro value slice pins s σ H x y v u Q I rx ry q hs
 rcases q with q|q
 ·exact h value slice pins s σ H x y v u Q I rx ry q hs
 ·exact h' value slice pins s σ H x y v u Q I rx ry q hs
theorem MtR.or {id:String}{r r':V→List V→Hp→VK→Prop} (h:MtR X id r) (h':MtR X id r'):MtR X id (fun x xs H Q=>r x xs H Q∨r' x xs H Q):=by
 intro pins s σ H x xs v us Q I rx rs q
 rcases q with q|q
 ·exact h pins s σ H x xs v us Q I rx rs q
 ·exact h' pins s σ H x xs v us Q I rx rs q
theorem QL {r:R2} (hr:IxR X r) (ha:PE X a ta) (hb:PE X b tb) (hs:Ic b):PE X (.Subscript a b pos) (tOp r ta tb):=by
 intro pins s σ H Q I h
 exact Subscript_ (QF ha hb I h fun v u s2 x y H2 I2 rx ry q=>hr a b pins s2 σ H2 x y v u Q I2 rx ry q (hs _ _))
def W0 (K:PySem.W.Frag):R2:=fun x y H Q=>∃p xs i v,x=.ref p∧y=.int i∧SqL K H p xs∧atI xs i=some v∧Q v H
def WU (K:PySem.W.Frag):R2:=fun x y H Q=>∃p xs i v,x=.ref p∧y=.int i∧SqT K H p xs∧atI xs i=some v∧Q v H
def W6:R2:=fun x y H Q=>∃z i c,x=.str z∧y=.int i∧z.length≤sizeLine∧atI z.cps.toList i=some c∧Q (.str ⟨#[c]⟩) H
theorem Kr:IxR X (W0 X.K):=by
 intro value slice pins s σ H x y v u Q I rx ry h hs
 obtain⟨p,xs,i,z,rfl,rfl,hq,he,q⟩:=h
 cases rx
 obtain⟨t,rfl⟩:=ry
 obtain⟨its,r,pl,hz⟩:=I.list hq
 obtain⟨j,h1,h2,h3,h4,h5⟩:=Ij he
 obtain⟨w,ew,rw'⟩:=r.get h2
 have hl:=r.length
 have hn:=DQ
 have fin:EP X pins σ Q w s:=⟨z,H,I,rw',q⟩
 by_cases h0:0≤i
 ·have hj:i.toNat=j:=by
   rw[seqIndex_of h0 h5] at h1
   exact qAn h1
  exact item_listR pl.isList h0 () (by rw[hj];simpa using ew) fin hs
 ·have hj:(i+(its.toArray.size:Int)).toNat=j:=by
   rw[seqIndex_neg () h4] at h1
   rw[qAk,←hl]
   exact qAn h1
  exact subscriptTail_builtinR (x:=w) pl.isList.typeIs slot_list_getitem.lookup
   (wpAny_getItem_list_neg (Q:=fun r s'=>r=w∧EP X pins σ Q r s') pl.isList () (by rw[qAk]<;>omega) () (by rw[hj];simpa using ew) ⟨rfl,fin⟩) hs
theorem Ov:IxR X (WU X.K):=by
 intro value slice pins s σ H x y v u Q I rx ry h hs
 obtain⟨p,xs,i,z,rfl,rfl,hq,he,q⟩:=h
 cases rx
 obtain⟨t,rfl⟩:=ry
 obtain⟨its,r,pl,hz⟩:=I.tuple hq
 obtain⟨j,h1,h2,h3,h4,h5⟩:=Ij he
 obtain⟨w,ew,rw'⟩:=r.get h2
 have hl:=r.length
 have hn:=DQ
 have fin:EP X pins σ Q w s:=⟨z,H,I,rw',q⟩
 exact subscriptTail_builtinR (x:=w) pl.typeIs slot_tuple_getitem.lookup
  (getItem_tuple (j:=j) (Q:=fun r s'=>r=w∧EP X pins σ Q r s') pl () () (by rw[qAk,←hl];exact h1) (by simpa using ew) ⟨rfl,fin⟩) hs
theorem NS:IxR X W6:=by
 intro value slice pins s σ H x y v u Q I rx ry h hs
 obtain⟨z,i,c,rfl,rfl,hz,he,q⟩:=h
 obtain⟨t,rfl⟩:=rx
 obtain⟨t',rfl⟩:=ry
 obtain⟨j,h1,h2,h3,h4,h5⟩:=Ij he
 have hl:z.cps.toList.length=z.length:=by simp[Str.length]
 rw[hl] at h1 h4 h5
 have hn:=DQ
 exact tail_any (typeIs_str s z t) slot_str_getitem.lookup (getItem_str (c:=c) (by
  have e1:decide (i < -(2^63:Int))=false:=decide_eq_false ()
  have e2:decide (i≥2^63)=false:=decide_eq_false ()
  rw[e1,e2,Bool.or_false]) (by rw[h1];simpa using h2) ⟨.str ⟨#[c]⟩,H,I.tok _,⟨_,rfl⟩,q⟩) hs
def rIx (K:PySem.W.Frag):R2:=fun x y H Q=>W0 K x y H Q∨WU K x y H Q∨W6 x y H Q
theorem WC:IxR X (rIx X.K):=Kr.or (Ov.or NS)
theorem JX (its:List Value)(n j:Nat)(u:Value):Obj.mapSeq (·.setIfInBounds j u) { cls:=.type "list",data:=.seq its.toArray n }={ cls:=.type "list",data:=.seq (its.set j u).toArray n }:=by
 simp[Obj.mapSeq]
theorem Inv.lst {pins:List (Addr×Obj)}{σ:St}{H:Hp}{s:Shared}{p:Addr}{xs:List V} (I:Inv X pins σ H s) (h:H p=some (.lst xs)) :
 ∃(its:List Value)(n:Nat),AA xs its∧s.heap.get? p=some { cls:=.type "list",data:=.seq its.toArray n }∧xs.length≤sizeLine:=by
 obtain⟨z,its,n,r,e⟩:=I.hok p _ h
 exact⟨its,n,r,e,z⟩
theorem Inv.lstUpd {pins:List (Addr×Obj)}{σ:St}{H:Hp}{s:Shared}{p:Addr}{xs ys:List V}{its its':List Value}{n n':Nat}{f:Obj→Obj} (I:Inv X pins σ H s) (h:H p=some (.lst xs))
 (ho:s.heap.get? p=some { cls:=.type "list",data:=.seq its.toArray n }) (hf:f { cls:=.type "list",data:=.seq its.toArray n }={ cls:=.type "list",data:=.seq its'.toArray n' }) (r:AA ys its') (hz:ys.length≤sizeLine) (t:Nat) :
 Inv X pins σ (upd H p (.lst ys)) { s with heap:=s.heap.update p f,toks:=t }:=by
 have e:(s.heap.update p f).get? p=some { cls:=.type "list",data:=.seq its'.toArray n' }:=by
  rw[qAY f ho (by rw[hf]<;>rfl),hf]
 refine I.write (x:=p) (e:=p) (by rw[h];trivial) (.inl rfl) (fun b u hb q=>(qBx _ _ (Ne.symm hb)).trans q) ⟨_,e⟩ ?_
 exact⟨hz,its',n',r,e⟩
def Rf:V→V→V→Hp→(Hp→Prop)→Prop:=fun o i v H Q=>∃p xs k j,o=.ref p∧i=.int k∧H p=some (.lst xs)∧ixN xs.length k=some j∧Q (upd H p (.lst (xs.set j v)))
theorem Tv:U7 X Rf:=by
 intro pins s σ H o i v ov iv u Q I ro ri rv h
 obtain⟨p,xs,k,j,rfl,rfl,hp,hj,q⟩:=h
 cases ro
 obtain⟨t,rfl⟩:=ri
 obtain⟨its,n,r,ho,hz⟩:=I.lst hp
 obtain⟨h1,h2,h3,h4⟩:=LG hj
 have hl:=r.length
 have hn:=DQ
 have I':Inv X pins σ (upd H p (.lst (xs.set j v))) { s with heap:=s.heap.update p (Obj.mapSeq (·.setIfInBounds j u)) } :=
  I.lstUpd hp ho (JX its n j u) (r.set rv j) (by rw[List.length_set];exact hz) s.toks
 by_cases h0:0≤k
 ·have hk:k.toNat=j:=by
   rw[seqIndex_of h0 h4] at h1
   exact qAn h1
  exact PySem.W.ki_setAt ho h0 () (by rw[qAk,←hl];exact h4) (by rw[hk];exact⟨_,I',q⟩)
 ·have hk:(k+(its.toArray.size:Int)).toNat=j:=by
   rw[seqIndex_neg () h3] at h1
   rw[qAk,←hl]
   exact qAn h1
  exact PySem.W.ki_setBack ho () (by rw[qAk,←hl];exact h3) () (by rw[hk];exact⟨_,I',q⟩)
theorem Hm (lo hi:Option Int)(n:Nat):(sliceBounds lo hi none n).1=((HT.sIx n 0 lo:Nat):Int)∧(sliceBounds lo hi none n).2.1=((HT.sIx n n hi:Nat):Int)∧(sliceBounds lo hi none n).2.2=1:=by
 refine⟨?_,?_,rfl⟩
 ·cases lo with
  |none=>simp[sliceBounds,HT.sIx]
  |some i =>
   simp only[sliceBounds,HT.sIx,qCt,show(1:Int)>0 from ∅,if_true]
   by_cases h:i<0
   ·simp only[h,if_true]<;>omega
   ·simp only[h,if_false]<;>omega
 ·cases hi with
  |none=>simp[sliceBounds,HT.sIx]
  |some i =>
   simp only[sliceBounds,HT.sIx,qCt,show(1:Int)>0 from ∅,if_true]
   by_cases h:i<0
   ·simp only[h,if_true]<;>omega
   ·simp only[h,if_false]<;>omega
theorem F1 (its:List Value)(lo hi:Option Int):slicePick its.toArray lo hi none=((its.drop (HT.sIx its.length 0 lo)).take (HT.sIx its.length its.length hi-HT.sIx its.length 0 lo)).toArray:=by
 obtain⟨h1,h2,h3⟩:=Hm lo hi its.toArray.size
 unfold slicePick
 rw[h1,h2,h3]
 simp only[sliceRange_one,pick_run,qAk]<;>rfl
def Y2 (K:PySem.W.Frag):V→Option Int→Option Int→Hp→VK→Prop:=fun x lo hi H Q=>∃a xs,x=.ref a∧SqL K H a xs∧∀p,H p=none→Q (.ref p) (upd H p (.lst (J4 xs lo hi)))
theorem Oz:SlR X (Y2 X.K):=by
 intro pins s σ H x v vl vu lo hi sl Q I rx hs pl pu h
 obtain⟨a,xs,rfl,hx,q⟩:=h
 cases rx
 obtain⟨its,r,ht,hz⟩:=I.list hx
 have hlen:=r.length
 refine⟨"list",_,slot_list_getitem.lookup,ht.isList.typeIs,?_⟩
 refine wpAny_getItem_list_slice ht.isList hs pl pu .none (by simp) ?_ (by rw[qAk]<;>omega)
 rw[F1,←hlen]
 refine⟨.ref s.heap.objs.size,_,I.laid (t':=s.toks) (o:=.lst (J4 xs lo hi)) (fun b ob q=>qAb _ q) (qAg _) ?_,rfl,q _ (I.hok.fresh (qAg _))⟩
 exact⟨qAE (Et xs lo hi) hz,_,0,(r.drop (HT.sIx xs.length 0 lo)).take (HT.sIx xs.length xs.length hi-HT.sIx xs.length 0 lo),qAm _ rfl⟩
def flatV:V→Bool
 |.non=>true
 |.bl _=>true
 |.int _=>true
 |.str _=>true
 |_=>false
def eqV:V→V→Bool
 |.non,.non=>true
 |.bl a,.bl b=>a==b
 |.bl a,.int b=>(if a then 1 else 0)==b
 |.int a,.bl b=>a==(if b then 1 else 0)
 |.int a,.int b=>a==b
 |.str a,.str b=>a==b
 |_,_=>false
theorem LZ {A:Around}{s:Shared}{y x:V}{u v:Value} (ry:AN y u) (rx:AN x v) (fy:flatV y=true) (fx:flatV x=true):SeqAt.EqAt A s u v (eqV y x):=by
 cases y with
 |non =>
  cases ry
  cases x with
  |non=>cases rx;exact SeqAt.EqAt.same _
  |bl b=>cases rx;exact SeqAt.EqAt.none_bool b
  |int b=>obtain⟨t,rfl⟩:=rx;exact SeqAt.EqAt.none_int b t
  |str b=>obtain⟨t,rfl⟩:=rx;exact SeqAt.EqAt.none_str b t
  |_=>exact absurd (show false=true from fx) qAe
 |bl a =>
  cases ry
  cases x with
  |non=>cases rx;exact SeqAt.EqAt.bool_none a
  |bl b=>cases rx;exact SeqAt.EqAt.bool_bool a b
  |int b=>obtain⟨t,rfl⟩:=rx;exact SeqAt.EqAt.bool_int a b t
  |str b=>obtain⟨t,rfl⟩:=rx;exact SeqAt.EqAt.bool_str a b t
  |_=>exact absurd (show false=true from fx) qAe
 |int a =>
  obtain⟨t',rfl⟩:=ry
  cases x with
  |non=>cases rx;exact SeqAt.EqAt.int_none a t'
  |bl b=>cases rx;exact SeqAt.EqAt.int_bool a t' b
  |int b=>obtain⟨t,rfl⟩:=rx;exact SeqAt.EqAt.int_int a t' b t
  |str b=>obtain⟨t,rfl⟩:=rx;exact SeqAt.EqAt.int_str a t' b t
  |_=>exact absurd (show false=true from fx) qAe
 |str a =>
  obtain⟨t',rfl⟩:=ry
  cases x with
  |non=>cases rx;exact SeqAt.EqAt.str_none a t'
  |bl b=>cases rx;exact SeqAt.EqAt.str_bool a t' b
  |int b=>obtain⟨t,rfl⟩:=rx;exact SeqAt.EqAt.str_int a t' b t
  |str b=>obtain⟨t,rfl⟩:=rx;exact SeqAt.EqAt.str_str a t' b t
  |_=>exact absurd (show false=true from fx) qAe
 |_=>exact absurd (show false=true from fy) qAe
def eqU (x:V)(u:Value):Bool:=match u with
 |.none=>eqV .non x
 |.bool b=>eqV (.bl b) x
 |.int i _=>eqV (.int i) x
 |.str z _=>eqV (.str z) x
 |_=>false
theorem Ow {x y:V}{u:Value} (r:AN y u) (f:flatV y=true):eqU x u=eqV y x:=by
 cases y with
 |non=>cases r;rfl
 |bl b=>cases r;rfl
 |int i=>obtain⟨t,rfl⟩:=r;rfl
 |str z=>obtain⟨t,rfl⟩:=r;rfl
 |_=>exact absurd (show false=true from f) qAe
theorem EA {x:V}:∀{xs:List V}{us:List Value},AA xs us→xs.all flatV=true→us.any (eqU x)=xs.any fun y=>eqV y x
 |_,_,.nil,_=>rfl
 |y::xs,u::us,.cons r t,f=>by
  rw[qCm,qAF] at f
  rw[List.any_cons,List.any_cons,Ow r f.1,EA t f.2]
theorem Dk {A:Around}{s:Shared}{x:V}{v:Value} (rx:AN x v) (fx:flatV x=true):∀{xs:List V}{us:List Value},AA xs us→xs.all flatV=true→∀u∈us,SeqAt.EqAt A s u v (eqU x u)
 |_,_,.nil,_=>fun u hu=>by cases hu
 |y::xs,u::us,.cons r t,f=>fun u' hu=>by
  rw[qCm,qAF] at f
  rcases qAq.mp hu with rfl|hu
  ·rw[Ow r f.1];exact LZ r rx f.1 fx
  ·exact Dk rx fx t f.2 u' hu
def inV (x:V)(xs:List V):Bool:=xs.any fun y=>eqV y x
def rIn (K:PySem.W.Frag)(neg:Bool):R2:=fun x y H Q=>∃p xs,y=.ref p∧(SqL K H p xs∨SqT K H p xs)∧flatV x=true∧xs.all flatV=true∧Q (.bl (if neg then !inV x xs else inV x xs)) H
theorem R8:OpR X (compareOp .In) (rIn X.K false):=by
 intro pins s σ H x y v u Q I rx ry h
 obtain⟨p,xs,rfl,hq,fx,fs,q⟩:=h
 cases ry
 rcases hq with hq|hq
 ·obtain⟨its,r,pl,hz⟩:=I.list hq
  refine SeqAt.in_listAt (eqU x) pl.isList (fun w hw=>Dk rx fx r fs w (by simpa using hw)) ⟨.bl _,H,I,rfl,?_⟩
  rw[show its.toArray.any (eqU x)=its.any (eqU x) by simp,EA r fs]
  exact q
 ·obtain⟨its,r,pl,hz⟩:=I.tuple hq
  refine SeqAt.in_tupleAt (eqU x) pl (fun w hw=>Dk rx fx r fs w (by simpa using hw)) ⟨.bl _,H,I,rfl,?_⟩
  rw[show its.toArray.any (eqU x)=its.any (eqU x) by simp,EA r fs]
  exact q
theorem Gz:OpR X (compareOp .NotIn) (rIn X.K true):=by
 intro pins s σ H x y v u Q I rx ry h
 obtain⟨p,xs,rfl,hq,fx,fs,q⟩:=h
 cases ry
 rcases hq with hq|hq
 ·obtain⟨its,r,pl,hz⟩:=I.list hq
  refine SeqAt.notIn_listAt (eqU x) pl.isList (fun w hw=>Dk rx fx r fs w (by simpa using hw)) ⟨.bl _,H,I,rfl,?_⟩
  rw[show its.toArray.any (eqU x)=its.any (eqU x) by simp,EA r fs]
  exact q
 ·obtain⟨its,r,pl,hz⟩:=I.tuple hq
  refine SeqAt.notIn_tupleAt (eqU x) pl (fun w hw=>Dk rx fx r fs w (by simpa using hw)) ⟨.bl _,H,I,rfl,?_⟩
  rw[show its.toArray.any (eqU x)=its.any (eqU x) by simp,EA r fs]
  exact q
theorem Og:OpR X (compareOp .NotIn) (fun x y H Q=>∃i j,x=.str i∧y=.str j∧Q (.bl (!(!(Builtin.Str.occurrences j i 0 j.length 1).isEmpty))) H):=by
 intro pins s σ H x y v u Q I rx ry h
 obtain⟨i,j,rfl,rfl,q⟩:=h
 obtain⟨t,rfl⟩:=rx
 obtain⟨t',rfl⟩:=ry
 exact notIn_str ⟨.bl _,H,I,rfl,q⟩
theorem Hv:A7 X (.builtin "len") (fun xs H Q=>∃p ys,xs=[.ref p]∧(SqL X.K H p ys∨SqT X.K H p ys)∧Q (.int ys.length) H):=by
 intro pins s σ H xs us Q I r h
 obtain⟨p,ys,rfl,hq,q⟩:=h
 obtain⟨u,rfl,rx⟩:=Bd r
 cases rx
 have hn:=DQ
 rcases hq with hq|hq
 ·obtain⟨its,r',pl,hz⟩:=I.list hq
  have hlen:=r'.length
  exact Calls.call_len_list pl.isList (by simp only[qAk]<;>omega) ⟨.int ys.length,H,I.tok _,⟨s.toks+1,by rw[qAk,hlen]⟩,q⟩
 ·obtain⟨its,r',pl,hz⟩:=I.tuple hq
  have hlen:=r'.length
  exact len_tuple pl (by simp only[qAk]<;>omega) ⟨.int ys.length,H,I.tok _,⟨s.toks+1,by rw[qAk,hlen]⟩,q⟩
theorem GL:A7 X (.builtin "len") (fun xs H Q=>∃z,xs=[.str z]∧z.length≤sizeLine∧Q (.int z.length) H):=by
 intro pins s σ H xs us Q I r h
 obtain⟨z,rfl,hz,q⟩:=h
 obtain⟨u,rfl,t,rfl⟩:=Bd r
 have hn:=DQ
 exact len_str () ⟨.int z.length,H,I.tok _,⟨_,rfl⟩,q⟩
theorem A7.or {f:Value}{r r':List V→Hp→VK→Prop} (h:A7 X f r) (h':A7 X f r'):A7 X f (fun xs H Q=>r xs H Q∨r' xs H Q):=by
 intro pins s σ H xs us Q I rs q
 rcases q with q|q
 ·exact h pins s σ H xs us Q I rs q
 ·exact h' pins s σ H xs us Q I rs q
theorem GD:A7 X (.type "list") (fun xs H Q=>∃p ys,xs=[.ref p]∧(SqL X.K H p ys∨SqT X.K H p ys)∧∀l,H l=none→Q (.ref l) (upd H l (.lst ys))):=by
 intro pins s σ H xs us Q I r h
 obtain⟨p,ys,rfl,hq,q⟩:=h
 obtain⟨u,rfl,rx⟩:=Bd r
 cases rx
 have fin:∀(its:List Value),AA ys its→ys.length≤sizeLine→∀(h':Heap)(c':Nat),(∀b o',s.heap.get? b=some o'→h'.get? b=some o') →
  h'.get? s.heap.objs.size=some { cls:=.type "list",dict:=none,data:=.seq its.toArray c',slots:=#[] }→EP X pins σ Q (.ref s.heap.objs.size) { s with heap:=h' }:=fun its r' hz h' c' kp e =>
  ⟨.ref s.heap.objs.size,_,I.laid (t':=s.toks) kp (qAg _) (show Bj X.prog X.w _ h' _ (.lst ys) from ⟨hz,its,c',r',e⟩),rfl,q _ (I.hok.fresh (qAg _))⟩
 rcases hq with hq|hq
 ·obtain⟨its,r',pl,hz⟩:=I.list hq
  have hlen:=r'.length
  obtain⟨o,ho,hc,n,hd⟩:=pl.isList
  exact call_list_seq p (.inl rfl) ho hc hd (fun h' c' kp e=>fin its r' hz h' c' kp e) (by simp only[qAk]<;>omega)
 ·obtain⟨its,r',pl,hz⟩:=I.tuple hq
  have hlen:=r'.length
  obtain⟨o,ho,hc,n,hd⟩:=pl
  exact call_list_seq p (.inr rfl) ho hc hd (fun h' c' kp e=>fin its r' hz h' c' kp e) (by simp only[qAk]<;>omega)
theorem FX:A7 X (.type "tuple") (fun xs H Q=>∃p ys,xs=[.ref p]∧((SqL X.K H p ys∧∀l,H l=none→Q (.ref l) (upd H l (.tup ys)))∨(SqT X.K H p ys∧Q (.ref p) H))):=by
 intro pins s σ H xs us Q I r h
 obtain⟨p,ys,rfl,h⟩:=h
 obtain⟨u,rfl,rx⟩:=Bd r
 cases rx
 rcases h with⟨hq,q⟩|⟨hq,q⟩
 ·obtain⟨its,r',pl,hz⟩:=I.list hq
  have hlen:=r'.length
  refine call_tuple_list pl.isList (fun h' kp=>?_) (by simp only[qAk]<;>omega)
  have I1:Inv X pins σ H { s with heap:=h' }:=I.kept (t':=s.toks) kp
  have I2:Inv X pins σ (upd H h'.objs.size (.tup ys)) { s with heap:=h'.push { cls:=.type "tuple",data:=.seq its.toArray } } :=
   I1.laid (t':=s.toks) (fun b o e=>qAb _ e) (qAg _) (show Bj X.prog X.w _ _ _ (.tup ys) from ⟨hz,its,r',IsTup.new _ _⟩)
  exact⟨.ref h'.objs.size,_,I2,rfl,q _ (I1.hok.fresh (qAg _))⟩
 ·obtain⟨its,r',pl,hz⟩:=I.tuple hq
  exact call_tuple_same pl ⟨.ref p,H,I,rfl,q⟩
def tyV (K:PySem.W.Frag)(T:String)(x:V)(H:Hp):Prop:=match x with
 |.str _=>T="str"
 |.int _=>T="int"
 |.ref p=>(T="list"∧∃xs,SqL K H p xs)∨(T="tuple"∧∃o,K.lookup p=some o∧o.cls=.type "tuple"∧o.dict=none) ∨
  (T="dict"∧((∃kvs,H p=some (.dK kvs))∨∃kvs,H p=some (.dT kvs)))∨(T="set"∧∃S n,H p=some (.set S n))
 |_=>False
theorem Oe {pins:List (Addr×Obj)}{σ:St}{H:Hp}{s:Shared}{T:String}{x:V}{v:Value} (I:Inv X pins σ H s) (r:AN x v) (ty:tyV X.K T x H) :
 s.TypeIs v T∧∀a,v=.ref a→∃ob,s.heap.get? a=some ob∧ob.dict=none:=by
 cases x with
 |str z =>
  obtain⟨t,rfl⟩:=r
  cases (show T="str" from ty)
  exact⟨typeIs_str s z t,fun _ e=>nomatch e⟩
 |int i =>
  obtain⟨t,rfl⟩:=r
  cases (show T="int" from ty)
  exact⟨typeIs_int s i t,fun _ e=>nomatch e⟩
 |ref p =>
  cases r
  rcases ty with⟨rfl,xs,hq⟩|⟨rfl,o,hk,hc,hd⟩|⟨rfl,hk⟩|⟨rfl,S,n,hk⟩
  ·obtain⟨its,_,pl,_⟩:=I.list hq
   refine⟨pl.isList.typeIs,fun a e=>?_⟩
   cases e
   obtain⟨o,n,e,c,hd,_⟩:=pl
   exact⟨o,e,hd⟩
  ·refine⟨⟨o,I.kIn p o hk,hc⟩,fun a e=>?_⟩
   cases e
   exact⟨o,I.kIn _ o hk,hd⟩
  ·have z:∃o,s.heap.get? p=some o∧o.ExactDict:=by
    rcases hk with⟨kvs,hk⟩|⟨kvs,hk⟩
    ·obtain⟨_,_,_,_,o,_,_,e,ex,_⟩:=I.hok p _ hk
     exact⟨o,e,ex⟩
    ·obtain⟨_,_,_,_,o,_,_,e,ex,_⟩:=I.hok p _ hk
     exact⟨o,e,ex⟩
   obtain⟨o,e,ex⟩:=z
   refine⟨⟨o,e,ex.1⟩,fun a e2=>?_⟩
   cases e2
   exact⟨o,e,ex.2.1⟩
  ·obtain⟨o,_,_,_,e,ex,_⟩:=I.hok p _ hk
   refine⟨⟨o,e,ex.1⟩,fun a e2=>?_⟩
   cases e2
   exact⟨o,e,ex.2.1⟩
 |_=>exact False.elim ty
def Us (K:PySem.W.Frag)(T:String)(r:V→List V→Hp→VK→Prop)(to:TE):TE:=fun σ H Q=>to σ H fun x H1=>tyV K T x H1∧r x [] H1 Q
def tBM (K:PySem.W.Frag)(T:String)(r:V→List V→Hp→VK→Prop)(to:TE)(t:TA):TE:=fun σ H Q=>to σ H fun x H1=>tyV K T x H1∧t σ H1 fun xs H2=>r x xs H2 Q
variable {o e:Expr}{es:List Expr}{to:TE}{t:TA}{name:Str}{apos cpos:Pos}{T id:String}{r:V→List V→Hp→VK→Prop}
theorem Wk (pa:PlainAttrs T)(slot:Slot T name id)(hty:typeOf (.builtin id)=pure (.type "method_descriptor"))(hm:MtR X id r)(ho:PE X o to)
 (hbase:attributeBase o name X.env (eval o X.env)=eval o X.env:=by rfl)(hline:(apos.endLine==cpos.line)=true:=by rfl):PE X (.Call (.Attribute o name apos) [] [] cpos) (Us X.K T r to):=by
 intro pins s σ H Q I h
 refine wpAny_Call_method0_late hbase hline (thn (ho pins s σ H _ I h) fun v s1 hh=>?_)
 obtain⟨x,H1,I1,r1,ty,q1⟩:=hh
 obtain⟨h1,h2⟩:=Oe I1 r1 ty
 exact⟨T,id,pa,slot,hty,h1,h2,Calls.callWith_builtin rfl (PySem.evalArgs_none (hm pins s1 σ H1 x [] v [] Q I1 r1 .nil q1))⟩
theorem Ie (pa:PlainAttrs T)(slot:Slot T name id)(hty:typeOf (.builtin id)=pure (.type "method_descriptor"))(hm:MtR X id r)(ho:PE X o to)(ha:PA X (e::es) t)
 (hbase:attributeBase o name X.env (eval o X.env)=eval o X.env:=by rfl)
 (hfew:((backTo cpos (starEach (e::es) X.env)).all (fun x=>!x.1)&&(backToKw cpos (keywordEach [] X.env)).all (fun x=>x.1.isSome)
  && decide ((e::es).length+([]:List Keyword).length+(if ([]:List Keyword).isEmpty then 0 else 1)<30))=true:=by rfl)
 (hline:(apos.endLine==cpos.line)=true:=by rfl) (hs:starEach (e::es) X.env=(false,eval e X.env)::starEach es X.env:=by rfl) (hplain:(backTo cpos (starEach es X.env)).any (·.1)=false:=by rfl) :
 PE X (.Call (.Attribute o name apos) (e::es) [] cpos) (tBM X.K T r to t):=by
 intro pins s σ H Q I h
 refine wpAny_Call_method_late hbase hfew hline rfl (thn (ho pins s σ H _ I h) fun v s1 hh=>?_)
 obtain⟨x,H1,I1,r1,ty,q1⟩:=hh
 obtain⟨h1,h2⟩:=Oe I1 r1 ty
 refine⟨T,id,pa,slot,hty,h1,h2,?_⟩
 have hA:=ha cpos pins s1 σ H1 _ I1 q1
 rw[hs] at hA ⊢
 refine Calls.callWith_builtin (by show(false||(backTo cpos (starEach es X.env)).any (·.1))=false;rw[hplain]<;>rfl) (Calls.evalArgs_plain ?_)
 exact thn hA fun us s2 ⟨vs,H2,I2,r2,q2⟩=>hm pins s2 σ H2 x vs v us Q I2 r1 r2 q2
end
end L2
namespace L2
open PySem PySem.Spec PyProof.Rows
def MtM (X:Cx)(id:String)(r:V→List V→Hp→VK→Prop):Prop :=
 ∀(pins:List (Addr×Obj))(s:Shared)(σ:St)(H:Hp)(x:V)(xs:List V)(v:Value)(us:List Value)(Q:VK),Inv X pins σ H s→AN x v→AA xs us→r x xs H Q →
  wpAny (model X.prog X.w) X.A (call (.builtin id) (v::us)) (EP X pins σ Q) X.xe s
theorem AA.one:∀{x:V}{us:List Value},AA [x] us→∃u,us=[u]∧AN x u
 |_,_,.cons r .nil=>⟨_,rfl,r⟩
theorem AA.two:∀{x y:V}{us:List Value},AA [x,y] us→∃u v,us=[u,v]∧AN x u∧AN y v
 |_,_,_,.cons r (.cons q .nil)=>⟨_,_,rfl,r,q⟩
theorem AA.zero:∀{us:List Value},AA [] us→us=[]
 |_,.nil=>rfl
theorem AA.dropLast {xs:List V}{us:List Value} (h:AA xs us):AA xs.dropLast us.dropLast:=by
 induction h with
 |nil=>exact .nil
 |cons r t ih =>
  cases t with
  |nil=>exact .nil
  |cons q t'=>exact .cons r ih
theorem AA.eraseIdx:∀{xs:List V}{us:List Value} (i:Nat),AA xs us→AA (xs.eraseIdx i) (us.eraseIdx i)
 |_,_,_,.nil=>.nil
 |_,_,0,.cons _ t=>t
 |_,_,i+1,.cons r t=>.cons r (AA.eraseIdx i t)
theorem AA.reverse {xs:List V}{us:List Value} (h:AA xs us):AA xs.reverse us.reverse:=by
 induction h with
 |nil=>exact .nil
 |cons r t ih=>rw[List.reverse_cons,List.reverse_cons];exact AA.append ih (.cons r .nil)
theorem AA.rep {xs:List V}{us:List Value} (h:AA xs us):∀k:Nat,AA (List.replicate k xs).flatten (List.replicate k us).flatten
 |0=>.nil
 |k+1=>by
  rw[qBs,qBs,qBA,qBA]
  exact AA.append h (AA.rep h k)
theorem JD {α:Type} (l:List α):l.eraseIdx (l.length-1)=l.dropLast:=by
 induction l with
 |nil=>rfl
 |cons a r ih =>
  cases r with
  |nil=>rfl
  |cons b r =>
   have e:(a::b::r).length-1=((b::r).length-1)+1:=by
    have h1:(a::b::r).length=r.length+2:=rfl
    have h2:(b::r).length=r.length+1:=rfl
    omega
   rw[e,qCB,ih]
   all_goals rfl
theorem EG {α:Type}:∀(l:List α)(i:Nat),(l.eraseIdx i).length≤l.length
 |[],_=>qAg _
 |_::_,0=>qA4 _
 |_::r,i+1=>Nat.succ_le_succ (EG r i)
theorem HD (its:List Value):∀(k:Nat)(acc:List Value),
 List.foldl (fun x1 x2=>x1++x2) acc.toArray (List.replicate k its.toArray)=(acc++(List.replicate k its).flatten).toArray
 |0,acc=>by simp
 |k+1,acc=>by
  have e:acc.toArray++its.toArray=(acc++its).toArray:=by simp
  have e2:(acc++its)++(List.replicate k its).flatten=acc++(List.replicate (k+1) its).flatten:=by
   rw[qBs,qBA,qBZ]
  rw[←e2,←HD its k (acc++its),←e,qBs,List.foldl_cons]
section
variable {X:Cx}{pins:List (Addr×Obj)}{σ:St}{H:Hp}{s:Shared}{l b:Addr}{xs ys zs:List V}
theorem Inv.lset {its its':List Value}{n:Nat}{f:Array Value→Array Value}{t':Nat} (I:Inv X pins σ H s) (hH:H l=some (.lst xs))
 (e:s.heap.get? l=some { cls:=.type "list",data:=.seq its.toArray n }) (hf:f its.toArray=its'.toArray) (hv:AA ys its') (hz:ys.length≤sizeLine) :
 Inv X pins σ (upd H l (.lst ys)) { s with heap:=s.heap.update l (Obj.mapSeq f),toks:=t' }:=by
 have q:=PySem.IsL.update e f
 rw[hf] at q
 refine I.write (x:=l) (e:=l) (by rw[hH];exact trivial) (.inl rfl) (fun b' u hb hu=>(qBx s.heap (Obj.mapSeq f) (Ne.symm hb)).trans hu) ⟨_,q⟩ ?_
 exact⟨hz,its',_,hv,q⟩
theorem Inv.lnew {its:List Value}{t':Nat} (I:Inv X pins σ H s) (hv:AA ys its) (hz:ys.length≤sizeLine) :
 Inv X pins σ (upd H s.heap.objs.size (.lst ys)) { s with heap:=s.heap.push { cls:=.type "list",data:=.seq its.toArray },toks:=t' } :=
 I.laid (fun _ _ q=>qAb _ q) (qAg _) ⟨hz,its,0,hv,qAm _ rfl⟩
theorem Inv.fresh (I:Inv X pins σ H s):H s.heap.objs.size=none:=I.hok.fresh (qAg _)
theorem Inv.lstM (I:Inv X pins σ H s)(hH:H l=some (.lst xs)):xs.length≤sizeLine∧∃(its:List Value)(n:Nat),AA xs its∧xs.length=its.length∧s.heap.get? l=some { cls:=.type "list",data:=.seq its.toArray n }:=by
 obtain⟨z,its,n,r,e⟩:=I.hok l _ hH
 exact⟨z,its,n,r,r.length,e⟩
theorem DY {n:Nat} (h:n≤sizeLine):Builtin.List.listTooLong n=false:=by
 unfold Builtin.List.listTooLong
 exact decide_eq_false ()
end
section
variable {X:Cx}
def Ll:V→List V→Hp→VK→Prop:=fun x vs H Q=>∃l xs y,x=.ref l∧vs=[y]∧H l=some (.lst xs)∧xs.length<sizeLine∧Q .non (upd H l (.lst (xs++[y])))
theorem Hb:MtM X "list.append" Ll:=by
 intro pins s σ H x vs v us Q I rx rv h
 obtain⟨l,xs,y,rfl,rfl,hH,hz,q⟩:=h
 cases rx
 obtain⟨u,rfl,ru⟩:=rv.one
 obtain⟨z,its,n,r,hl,e⟩:=I.lstM hH
 refine call_meets F.slot_list_append ⟨_,e,rfl⟩ F.entry_list_append (F.args_list_append_2 _ _) (PySem.list_append l its.toArray n u (by rw[qAk];omega)) ⟨e,?_⟩
 refine⟨.non,_,I.lset (its':=its++[u]) hH e (by simp) (r.append (.cons ru .nil)) ?_,rfl,q⟩
 rw[qAa,List.length_singleton]
 omega
def PQ:V→List V→Hp→VK→Prop:=fun x vs H Q=>∃l b xs zs,x=.ref l∧vs=[.ref b]∧H l=some (.lst xs)∧H b=some (.lst zs)∧xs.length+zs.length≤sizeLine∧Q .non (upd H l (.lst (xs++zs)))
theorem RR:MtM X "list.extend" PQ:=by
 intro pins s σ H x vs v us Q I rx rv h
 obtain⟨l,b,xs,zs,rfl,rfl,hH,hB,hz,q⟩:=h
 cases rx
 obtain⟨u,rfl,ru⟩:=rv.one
 cases ru
 obtain⟨z,its,n,r,hl,e⟩:=I.lstM hH
 obtain⟨z2,its2,n2,r2,hl2,e2⟩:=I.lstM hB
 have hsz:its.toArray.size+its2.toArray.size≤sizeLine:=by rw[qAk,qAk];omega
 have hlong:¬(!its.toArray.isEmpty&&Builtin.List.listTooLong (its.toArray.size+its2.toArray.size))=true:=by
  rw[DY hsz,qBV]
  exact qAe
 refine call_meets F.slot_list_extend ⟨_,e,rfl⟩ F.entry_list_extend (F.args_list_extend_2 _ _)
  (AutoSeq1.list_extend_list_list_0 l its.toArray n b its2.toArray n2 hlong (by rw[qAk];omega) ()) ⟨e,e2,?_⟩
 refine⟨.non,_,I.lset (its':=its++its2) hH e (by simp) (r.append r2) ?_,rfl,q⟩
 rw[qAa]
 omega
def Xz:V→List V→Hp→VK→Prop:=fun x vs H Q=>∃l xs y,x=.ref l∧vs=[]∧H l=some (.lst xs)∧xs[xs.length-1]? = some y∧Q y (upd H l (.lst xs.dropLast))
theorem Wj:MtM X "list.pop" Xz:=by
 intro pins s σ H x vs v us Q I rx rv h
 obtain⟨l,xs,y,rfl,rfl,hH,hy,q⟩:=h
 cases rx
 have hus:=rv.zero
 subst hus
 obtain⟨z,its,n,r,hl,e⟩:=I.lstM hH
 obtain⟨u,hu,ru⟩:=r.get hy
 have hy':its.toArray[its.toArray.size-1]? = some u:=by
  show its.toArray[its.length-1]? = some u
  rw[←Array.getElem?_toList,←hl]
  exact hu
 refine call_meets F.slot_list_pop ⟨_,e,rfl⟩ F.entry_list_pop (F.args_list_pop_1 _) (MeetsSeq.list_pop_last l its.toArray n u hy' (by rw[qAk];omega)) ⟨e,?_⟩
 refine⟨y,_,I.lset (its':=its.dropLast) hH e ?_ r.dropLast ?_,ru,q⟩
 ·show its.toArray.eraseIdxIfInBounds (its.toArray.size-1)=its.dropLast.toArray
  rw[qAk,qBt,JD]
 ·rw[qAP]
  omega
def SR:V→List V→Hp→VK→Prop:=fun x vs H Q=>∃l xs i k y,x=.ref l∧vs=[.int i]∧H l=some (.lst xs)∧-(2^63)≤i∧i<2^63∧seqIndex? i xs.length=some k∧xs[k]? = some y∧Q y (upd H l (.lst (xs.eraseIdx k)))
theorem T2:MtM X "list.pop" SR:=by
 intro pins s σ H x vs v us Q I rx rv h
 obtain⟨l,xs,i,k,y,rfl,rfl,hH,h1,h2,hk,hy,q⟩:=h
 cases rx
 obtain⟨u,rfl,ru⟩:=rv.one
 obtain⟨t,rfl⟩:=ru
 obtain⟨z,its,n,r,hl,e⟩:=I.lstM hH
 obtain⟨w,hw,rw'⟩:=r.get hy
 refine call_meets F.slot_list_pop ⟨_,e,rfl⟩ F.entry_list_pop (F.args_list_pop_2 _ _)
  (MeetsSeq.list_pop_at l its.toArray n i t k w (fitsIndex_both h1 h2) (by rw[qAk,←hl];exact hk) (by rw[←Array.getElem?_toList];exact hw) (by rw[qAk];omega)) ⟨e,?_⟩
 refine⟨y,_,I.lset (its':=its.eraseIdx k) hH e ?_ (r.eraseIdx k) ?_,rw',q⟩
 ·show its.toArray.eraseIdxIfInBounds k=(its.eraseIdx k).toArray
  rw[qBt]
 ·have:=EG xs k
  omega
def Mz:V→List V→Hp→VK→Prop:=fun x vs H Q=>∃l xs,x=.ref l∧vs=[]∧H l=some (.lst xs)∧Q .non (upd H l (.lst xs.reverse))
theorem QC:MtM X "list.reverse" Mz:=by
 intro pins s σ H x vs v us Q I rx rv h
 obtain⟨l,xs,rfl,rfl,hH,q⟩:=h
 cases rx
 have hus:=rv.zero
 subst hus
 obtain⟨z,its,n,r,hl,e⟩:=I.lstM hH
 refine call_meets F.slot_list_reverse ⟨_,e,rfl⟩ F.entry_list_reverse (F.args_list_reverse_1 _) (AutoSeq1.list_reverse_list_0 l its.toArray n (by rw[qAk];omega)) ⟨e,?_⟩
 refine⟨.non,_,I.lset (its':=its.reverse) hH e (by simp) r.reverse ?_,rfl,q⟩
 rw[List.length_reverse]
 omega
def NZ:V→List V→Hp→VK→Prop:=fun x vs H Q=>∃l xs,x=.ref l∧vs=[]∧H l=some (.lst xs)∧Q .non (upd H l (.lst []))
theorem S7:MtM X "list.clear" NZ:=by
 intro pins s σ H x vs v us Q I rx rv h
 obtain⟨l,xs,rfl,rfl,hH,q⟩:=h
 cases rx
 have hus:=rv.zero
 subst hus
 obtain⟨z,its,n,r,hl,e⟩:=I.lstM hH
 refine call_meets F.slot_list_clear ⟨_,e,rfl⟩ F.entry_list_clear (F.args_list_clear_1 _) (AutoSeq1.list_clear_list_0 l its.toArray n (by rw[qAk];omega)) ⟨e,?_⟩
 exact⟨.non,_,I.lset (its':=[]) (ys:=[]) hH e rfl .nil (qAw _),rfl,q⟩
def Zo:R2:=fun x y H Q=>∃l b xs zs,x=.ref l∧y=.ref b∧H l=some (.lst xs)∧H b=some (.lst zs)∧xs.length+zs.length≤sizeLine∧∀p,H p=none→Q (.ref p) (upd H p (.lst (xs++zs)))
theorem RJ:OpR X (binaryOp .Add) Zo:=by
 intro pins s σ H x y v u Q I rx ry h
 obtain⟨l,b,xs,zs,rfl,rfl,hH,hB,hz,q⟩:=h
 cases rx
 cases ry
 obtain⟨z,its,n,r,hl,e⟩:=I.lstM hH
 obtain⟨z2,its2,n2,r2,hl2,e2⟩:=I.lstM hB
 refine PySem.P.add_list e e2 ?_ (by rw[qAk,qAk];omega)
 have ea:its.toArray++its2.toArray=(its++its2).toArray:=by simp
 rw[ea]
 exact⟨.ref _,_,I.lnew (t':=s.toks) (r.append r2) (by rw[qAa];omega),rfl,q _ I.fresh⟩
def Zs:R2:=fun x y H Q=>∃l k xs,x=.ref l∧y=.int k∧H l=some (.lst xs)∧-(2^63)≤k∧k<2^63∧xs.length*k.toNat≤sizeLine ∧
 ∀p,H p=none→Q (.ref p) (upd H p (.lst (List.replicate k.toNat xs).flatten))
theorem P5 {α:Type} (xs:List α) (k:Nat):(List.replicate k xs).flatten.length=k*xs.length:=by
 induction k with
 |zero=>simp
 |succ k ih=>rw[qBs,qBA,qAa,ih,Nat.succ_mul,qCP]
theorem Xr:OpR X (binaryOp .Mult) Zs:=by
 intro pins s σ H x y v u Q I rx ry h
 obtain⟨l,k,xs,rfl,rfl,hH,h1,h2,hz,q⟩:=h
 cases rx
 obtain⟨t,rfl⟩:=ry
 obtain⟨z,its,n,r,hl,e⟩:=I.lstM hH
 have hlen:its.toArray.size*k.toNat≤sizeLine:=by rw[qAk,←hl];exact hz
 have hcap:¬its.toArray.size*k.toNat>(2^63-1)/8:=by
  have:(sizeLine:Nat)≤(2^63-1)/8:=∅
  omega
 have hfit:¬(!Builtin.List.listFitsIndex k)=true:=by
  rw[fitsIndex_both h1 h2]
  exact qAe
 have hlong:¬Builtin.List.listTooLong (its.toArray.size*k.toNat)=true:=by
  rw[DY hlen]
  exact qAe
 have hnew:List.foldl (fun x1 x2=>x1++x2) #[] (List.replicate (if its.toArray.isEmpty=true then 0 else k.toNat) its.toArray)=(List.replicate k.toNat its).flatten.toArray:=by
  have f0:∀m:Nat,List.foldl (fun x1 x2=>x1++x2) #[] (List.replicate m its.toArray)=(List.replicate m its).flatten.toArray:=fun m=>by
   have:=HD its m []
   rw[qBP] at this
   exact this
  rw[f0]
  cases its with
  |nil=>simp
  |cons a r'=>rw[if_neg (by simp)]
 refine wpAny_binaryOp_repeat_ref (T:="list") (U:="int") ∅ ⟨_,e,rfl⟩ (fun s'=>typeIs_int s' k t) noFill_list_mul F.fills_int_mul F.slot_int_rmul repeat_list F.slot_int_index.lookup
  (call_meets F.slot_int_rmul (typeIs_int s k t) F.entry_int_rmul (F.args_int_rmul_2 _ _) (int___rmul___int_list k t l its.toArray n)
   ⟨e,rfl,⟨_,e,rfl⟩,call_meets F.slot_list_mul ⟨_,e,rfl⟩ F.entry_list_mul (F.args_list_mul_2 _ _) (AutoListH.list___mul___list_int_3 l its.toArray n k t hfit hcap hlong) ⟨e,?_⟩⟩)
 rw[hnew]
 exact⟨.ref _,_,I.lnew (t':=s.toks) (r.rep k.toNat) (by rw[P5,Nat.mul_comm];exact hz),rfl,q _ I.fresh⟩
theorem Tq {pins:List (Addr×Obj)}{s:Shared}{σ:St}{H:Hp}{l:Addr}{xs:List V}{i:Int}{t:Tok}{k:Nat}{Q:Unit→Shared→Prop} (I:Inv X pins σ H s) (hH:H l=some (.lst xs))
 (h1:-(2^63)≤i) (h2:i<2^63) (hk:seqIndex? i xs.length=some k) (h:∀s',Inv X pins σ (upd H l (.lst (xs.eraseIdx k))) s'→Q Unit.unit s') :
 wpAny (model X.prog X.w) X.A (delItem (.ref l) (.int i t)) Q X.xe s:=by
 obtain⟨z,its,n,r,hl,e⟩:=I.lstM hH
 refine PySem.P.delItem_list (k:=k) e (fitsIndex_both h1 h2) (by rw[qAk,←hl];exact hk) (h _ ?_) (by rw[qAk];omega)
 refine I.lset (its':=its.eraseIdx k) (t':=s.toks) hH e ?_ (r.eraseIdx k) ?_
 ·show its.toArray.eraseIdxIfInBounds k=(its.eraseIdx k).toArray
  rw[qBt]
 ·have:=EG xs k
  omega
end
section
variable {prog:Program}{w:World}{A:Around}{E:Value→Shared→Prop}{s:Shared}
theorem LW (its its2:List Value)(a c:Nat):its.toArray.extract 0 a++its2.toArray++its.toArray.extract c its.toArray.size=(its.take a++its2++its.drop c).toArray:=by
 apply Array.toList_inj.mp
 first
  |(simp
    exact qA5 (by simp))
  |simp[qA5]
  |simp
theorem JS {a c n:Nat} (hac:a≤c) (hc:c≤n):sliceBounds (some (a:Int)) (some (c:Int)) none n=((a:Int),(c:Int),1):=by
 simp only[sliceBounds,qCt]
 have h1:¬((a:Int)<0):=()
 have h2:¬((c:Int)<0):=()
 simp only[h1,h2,if_false,show(1:Int)>0 from ∅,if_true]
 congr 1
 ·omega
 ·congr 1;omega
set_option maxRecDepth 100000 in
theorem Gj {l b sl:Addr}{items new:Array Value}{n n2:Nat}{vl vu:Value}{a c:Nat}{Q:Unit→Shared→Prop}
 (e:s.heap.get? l=some { cls:=.type "list",data:=.seq items n }) (e2:s.heap.get? b=some { cls:=.type "list",data:=.seq new n2 }) (hne:l≠b)
 (hs:s.heap.IsSliceOf sl vl vu .none) (pl:IsPart vl (some (a:Int))) (pu:IsPart vu (some (c:Int))) (hac:a≤c) (hc:c≤items.size)
 (hsz:items.size+new.size≤sizeLine) (h:Q Unit.unit { s with heap:=s.heap.update l (Obj.mapSeq fun xs=>xs.extract 0 a++new++xs.extract c xs.size) }) :
 wpAny (model prog w) A (setItem (.ref l) (.ref sl) (.ref b)) Q E s:=by
 have hl:s.heap.IsList l items:=PySem.IsL.isList e
 have hb:s.heap.IsList b new:=PySem.IsL.isList e2
 obtain⟨os,hos,hcs,hds⟩:=id hs
 have hTs:s.TypeIs (.ref sl) "slice":=⟨os,hos,hcs⟩
 have hstep:¬((rawPart none==rawInt 0)=true):=qAe
 have hsame:Builtin.List.listSameRef (.ref l) (.ref b)=false:=by
  unfold Builtin.List.listSameRef
  exact beq_eq_false_iff_ne.mpr hne
 have hmax:(max (a:Int) (c:Int)).toNat=c:=()
 have hz':((fun xs:Array Value=>xs.extract 0 a++new++xs.extract c xs.size) items).size≤sizeLine+1:=by
  simp only[Array.size_append,Array.size_extract]
  omega
 unfold setItem
 try with_reducible refine wpAny_holding ?_
 first|refine wpAny_bind (wpAny_pure ?_)|skip
 refine wpAny_bind (wpAny_sequenceKey hl.typeIs ∅ ?_)
 refine wpAny_bind (wpAny_callSpecial?_slot (name:=Str.ofString "__setitem__") hl.typeIs slot_list_setitem
  (wpAny_call_entry slot_list_setitem hl.typeIs entry_list_setitem ?_ (args_list_setitem _ _ _)))
 show wpAny _ _ (Builtin.List.listSubscript? (.ref sl) >>= _) _ _ s
 refine wpAny_bind ?_
 unfold Builtin.List.listSubscript?
 refine wpAny_bind (wpAny_specialOf hTs slice_no_index ?_)
 simp only[Option.isNone_none,if_true]
 refine wpAny_pure ?_
 show wpAny _ _ (typeOf (.ref sl) >>= _) _ _ s
 refine wpAny_bind (wpAny_typeOf hTs ?_)
 first
  |rw[if_neg ∅]
  |refine qCi ∅ ?_
 rw[listSliceParts_eq]
 refine wpAny_bind (wpAny_bind (wpAny_field hos hds (x:=.none) rfl (wpAny_bind (wpAny_listPart .none ?_))))
 rw[if_neg hstep]
 refine wpAny_bind (wpAny_field hos hds (x:=vl) rfl (wpAny_bind (wpAny_listPart pl ?_)))
 refine wpAny_bind (wpAny_field hos hds (x:=vu) rfl (wpAny_bind (wpAny_listPart pu (wpAny_pure ?_))))
 first
  |simp only[hsame,qBe,if_false]
  |refine qCi hsame ?_
  |(dsimp only
    rw[if_neg (by rw[hsame];exact qAe)])
 refine wpAny_bind (m:=Builtin.List.listAllItems (.ref b) "must assign iterable to extended slice") ?_
 unfold Builtin.List.listAllItems
 refine wpAny_bind (wpAny_typeOf hb.typeIs ?_)
 first
  |refine PySem.W.KFB.if_so ∅ ?_
  |rw[if_pos ∅]
  |simp only[beq_self_eq_true,Bool.true_or,if_true]
 unfold Builtin.List.listItems
 refine wpAny_bind (wpAny_seqItems e2 rfl (wpAny_pure ?_))
 refine wpAny_bind (wpAny_bind (wpAny_seqItems e rfl (wpAny_pure ?_)))
 refine wpAny_bind (wpAny_of_eq ((sliceIndices_raw (some (a:Int)) (some (c:Int)) none items.size (by simp)).trans (congrArg (pure:Int×Int×Int→Sem (Int×Int×Int)) (JS hac hc))) ?_)
 show wpAny _ _ (if ((1:Int)==1)=true then _ else _) _ _ s
 rw[if_pos ∅]
 refine wpAny_bind (wpAny_rule ?_)
 first
  |simp only[DY hsz,qBe,if_false]
  |refine qCi (DY hsz) ?_
 first|refine wpAny_bind (wpAny_pure ?_)|skip
 show wpAny _ _ (updateSeq l (fun xs=>xs.extract 0 ((a:Int)).toNat++new++xs.extract (max (a:Int) (c:Int)).toNat xs.size) >>= _) _ _ s
 rw[hmax,qAO]
 refine wpAny_bind (wpAny_updateSeq (hz:=qAE (Nat.le_add_right _ _) hsz) (_hz':=hz') e rfl ?_)
 refine wpAny_bind (wpAny_letGo ?_)
 first
  |exact wpAny_bind (wpAny_pure (wpAny_pure ⟨.none,rfl,wpAny_pure h⟩))
  |exact wpAny_pure ⟨.none,rfl,wpAny_pure h⟩
end
section
variable {X:Cx}
theorem Sn {pins:List (Addr×Obj)}{s:Shared}{σ:St}{H:Hp}{l b sl:Addr}{xs ys:List V}{a c:Int}{vl vu:Value}{Q:Unit→Shared→Prop} (I:Inv X pins σ H s)
 (hH:H l=some (.lst xs)) (hB:H b=some (.lst ys)) (hne:l≠b) (hs:s.heap.IsSliceOf sl vl vu .none) (ra:AN (.int a) vl) (rc:AN (.int c) vu) (h0:0≤a) (hac:a≤c) (hc:c≤xs.length)
 (hz:xs.length+ys.length≤sizeLine) (h:∀s',Inv X pins σ (upd H l (.lst (xs.take a.toNat++ys++xs.drop c.toNat))) s'→Q Unit.unit s') :
 wpAny (model X.prog X.w) X.A (setItem (.ref l) (.ref sl) (.ref b)) Q X.xe s:=by
 obtain⟨ta,rfl⟩:=ra
 obtain⟨tc,rfl⟩:=rc
 obtain⟨z,its,n,r,hl,e⟩:=I.lstM hH
 obtain⟨z2,its2,n2,r2,hl2,e2⟩:=I.lstM hB
 obtain⟨a',rfl⟩:=qBg h0
 obtain⟨c',rfl⟩:=qBg (Int.le_trans h0 hac)
 simp only[qAO] at h
 refine Gj (a:=a') (c:=c') e e2 hne hs (.int _ _) (.int _ _) () (by rw[qAk];omega) (by rw[qAk,qAk];omega) (h _ ?_)
 refine I.lset (its':=its.take a'++its2++its.drop c') (t':=s.toks) hH e ?_ (AA.append (AA.append (r.take _) r2) (r.drop _)) ?_
 ·exact LW its its2 a' c'
 ·rw[qAa,qAa,qAu,qAz]
  omega
end
end L2
namespace Att
open PySem PySem.W PySem.Calls PyProof.Rows
theorem Ec {P:Params}{h:Heap}:∀(ns:List Int)(vs:List Value),WellAll P h vs (ns.map WData.int)→IntsAre vs ns:=by
 intro ns
 induction ns with
 |nil =>
  intro vs w
  rw[List.map_nil] at w
  cases w
  exact .nil
 |cons n ns ih =>
  intro vs w
  rw[qA8] at w
  cases w with
  |cons a b =>
   cases a
   exact .cons _ _ (ih _ b)
theorem EJ {l:OpenLaw}{n:Nat} (hn:l.most=some n){P:Params}{h:Heap}{args:List WData}{vals:List Value}
 (hpre:l.row.toRowW.claim.pre args=true) (hwl:WellAll P h vals args) :
 ∃a vs ns,vals=[Value.ref a]∧args=[WData.list (ns.map WData.int)]∧h.get? a=some { cls:=.type "list",data:=.seq vs.toArray }∧IntsAre vs ns∧ns.length≤n:=by
 have hsh:WShape.hasAll [] args [.list .int]=true:=(pre_splitW hpre).1
 have hc:l.pre.holds [] { args:=args }=true:=(pre_splitW hpre).2
 obtain⟨d,r,rfl,h1,h2⟩:=hasAllW_cons hsh
 obtain rfl:=hasAllW_nil h2
 obtain⟨xs,rfl,h3⟩:=hasW_list h1
 obtain⟨ns,rfl⟩:=items_int h3
 have hlen:ns.length≤n:=by
  unfold OpenLaw.pre at hc
  have h4:(WTm.not (.lt (.lit (.int (n:Int))) (.len (.arg 0)))).holds [] { args:=[.list (ns.map .int)] }=true:=by
   have h4:=(holds_andW hc).1
   rw[hn] at h4
   exact h4
  have h5:=condW_of h4 (w_not (w_lt w_lit (w_len_list (w_arg rfl))))
  rw[qAf] at h5
  refine qBF fun q=>?_
  have q':(n:Int)<((ns.length:Nat):Int):=()
  first
   |(rw[decide_eq_true q'] at h5;exact absurd h5 ∅)
   |(simp at h5;omega)
 cases hwl with
 |cons w1 w2 =>
  cases w2
  cases w1 with
  |list ho hall=>exact⟨_,_,ns,rfl,rfl,ho,Ec ns _ hall,hlen⟩
theorem En (l:OpenLaw)(args:List WData):l.row.toRowW.claim.post args (.bool true) args=true :=
 postW_of (r:=l.row.toRowW) (X:=(true==true))
  (show WShape.has [] (.bool true) .bool=true by first|rfl|decide|simp[WShape.has,WShape.arms,WShape.armsAll])
  (show(WTm.eq .res (.lit (.bool true))).value [] { args:=args,res:=some (.bool true),after:=args }=some (.bool (true==true)) from w_eq_bool (w_res rfl) w_lit) rfl
theorem Xl {l:OpenLaw}{n:Nat}{q:Program}{loose:List Str}{XP:(Str→Option Value)→Heap→Prop}{YP:World→Heap→Prop}{d:DefRec}{x:Str}
 (hn:l.most=some n) (hdf:d.params.defaults=[])
 (hbind:∀pm cd doc v:Value,bindArgs (docDef d.name d.params d.body d.scope pm cd doc) ⟨[v],[]⟩=pure [(x,v)])
 (hx:d.scope.names.lookup x=some .local∨d.scope.names.lookup x=some .cell)
 (hk:d.scope.kind=.function) (hco:d.scope.isCoroutine=false) (hgen:d.scope.isGenerator=false)
 (body:∀(w:World)(s₀ s₁ s:Shared)(mg mb:Str→Option Value)(fa:Addr)(o:Obj)(pm cd doc:Value)(a:Addr)(vs:List Value)(ns:List Int),
  Ground q loose [] XP w s₀ mg mb s₁.heap→YP w s₁.heap →
  s₁.heap.get? fa=some o→o.data=.func (docDef d.name d.params d.body d.scope pm cd doc)→s₁.heap.CodeRec cd d.name→mg d.name=some (.ref fa) →
  s₁.heap.get? a=some { cls:=.type "list",data:=.seq vs.toArray }→IntsAre vs ns→ns.length≤n →
  s.gens=#[]→s.os=s₁.os →
  Fr s₁.heap s₁.heap.objs.size s.heap (bindL (envOfC d.name d.scope s₁.heap.objs.size fa cd).kindOf [(x,.ref a)] fun _=>none) →
  Cl s₁.heap.objs.size (cellsFrom (s₁.heap.objs.size+1) d.scope.names []) s.heap (bindC (envOfC d.name d.scope s₁.heap.objs.size fa cd).kindOf [(x,.ref a)] fun _=>none) →
  wpAny (model l.prog w) (callerA.deeper (envOfC d.name d.scope s₁.heap.objs.size fa cd)) (execs d.body (envOfC d.name d.scope s₁.heap.objs.size fa cd))
   (fun f s'=>f=.ret (.bool true)∧OldK s₁.heap s'.heap∧s'.os=s₁.os∧AllBare s'.gens) (fun _ _=>False) s) :
 WalkO q loose XP YP l.row.toRowW d [] (fun f vs=>PySem.call f vs):=by
 intro w s₀ s₁ mg mb G Y fa o pm cd doc dV kV ho hd hcd hD hmg hg args vals as hpre hlay hrd hwl hlo
 obtain rfl:dV=.none:=Dflts.none hD hdf
 obtain rfl:kV=.none:=Dflts.noKw hD
 obtain⟨a,vs,ns,rfl,rfl,hobj,hints,hlen⟩:=EJ hn hpre hwl
 refine enter_call ?_
 refine call_cells_ret (o:=o) (by rw[depth_caller];decide) ho (fd_plain hd) G.T.nolimit hcd (hbind pm cd doc (.ref a)) (fun y hy=>?_) (fun h₁ tk F X=>?_) hco hgen hk
 ·obtain rfl:y=(x,Value.ref a):=qAM.mp hy
  rcases hx with e|e
  ·exact .inl e
  ·exact .inr ⟨e,cellsFrom_some _ _ _ (.inl e)⟩
 ·refine wpAny_mono (body w s₀ s₁ { s₁ with heap:=h₁,toks:=tk } mg mb fa o pm cd doc a vs ns G Y ho (fd_plain hd) hcd hmg hobj hints hlen hg rfl F X) (fun f s' hq=>?_) (fun _ _ hq=>hq)
  obtain⟨rfl,h2,h3,h4⟩:=hq
  exact⟨.inl ⟨.bool true,.bool true,[],rfl,fun _=>rfl,.bool true,En l _,fun _=>⟨List.Pairwise.nil,fun _ hm=>(nomatch hm)⟩⟩,h2,h3,h4⟩
theorem attach_call {l:OpenLaw}{n:Nat}{q:Program}{loose:List Str}{XP:(Str→Option Value)→Heap→Prop}{YP:World→Heap→Prop}{d:DefRec}
 (hn:l.most=some n) (hdf:d.params.defaults=[])
 (call:∀(w:World)(s₀ s₁:Shared)(mg mb:Str→Option Value)(fa:Addr)(o:Obj)(pm cd doc:Value)(a:Addr)(vs:List Value)(ns:List Int),
  Ground q loose [] XP w s₀ mg mb s₁.heap→YP w s₁.heap →
  s₁.heap.get? fa=some o→o.data=.func (docDef d.name d.params d.body d.scope pm cd doc)→s₁.heap.CodeRec cd d.name→mg d.name=some (.ref fa) →
  s₁.heap.get? a=some { cls:=.type "list",data:=.seq vs.toArray }→IntsAre vs ns→ns.length≤n→s₁.gens=#[] →
  codeAny (model l.prog w) callerA (.call (.ref fa) ⟨[.ref a],[]⟩) (fun r s'=>r=.ok (.ret (.bool true))∧OldK s₁.heap s'.heap∧s'.os=s₁.os∧AllBare s'.gens) s₁) :
 WalkO q loose XP YP l.row.toRowW d [] (fun f vs=>PySem.call f vs):=by
 intro w s₀ s₁ mg mb G Y fa o pm cd doc dV kV ho hd hcd hD hmg hg args vals as hpre hlay hrd hwl hlo
 obtain rfl:dV=.none:=Dflts.none hD hdf
 obtain rfl:kV=.none:=Dflts.noKw hD
 obtain⟨a,vs,ns,rfl,rfl,hobj,hints,hlen⟩:=EJ hn hpre hwl
 refine enter_call (codeAny_mono (call w s₀ s₁ mg mb fa o pm cd doc a vs ns G Y ho (fd_plain hd) hcd hmg hobj hints hlen hg) fun r s' hq=>?_)
 obtain⟨rfl,h2,h3,h4⟩:=hq
 exact⟨.inl ⟨.bool true,.bool true,[],rfl,fun _=>rfl,.bool true,En l _,fun _=>⟨List.Pairwise.nil,fun _ hm=>(nomatch hm)⟩⟩,h2,h3,h4⟩
theorem VM {l:OpenLaw}{n:Nat}{q:Program}{loose:List Str}{XP:(Str→Option Value)→Heap→Prop}{YP:World→Heap→Prop}{d:DefRec}{x:Str}
 (hn:l.most=some n) (hdf:d.params.defaults=[])
 (hbind:∀pm cd doc v:Value,bindArgs (docDef d.name d.params d.body d.scope pm cd doc) ⟨[v],[]⟩=pure [(x,v)])
 (hx:d.scope.names.lookup x=some .local∨d.scope.names.lookup x=some .cell)
 (hk:d.scope.kind=.function) (hco:d.scope.isCoroutine=false) (hgen:d.scope.isGenerator=false)
 (body:∀(w:World)(s₀ s₁ s:Shared)(mg mb:Str→Option Value)(fa:Addr)(o:Obj)(pm cd doc:Value)(a:Addr)(vs:List Value)(ns:List Int),
  Ground q loose [] XP w s₀ mg mb s₁.heap→YP w s₁.heap →
  s₁.heap.get? fa=some o→o.data=.func (docDef d.name d.params d.body d.scope pm cd doc)→s₁.heap.CodeRec cd d.name→mg d.name=some (.ref fa) →
  s₁.heap.get? a=some { cls:=.type "list",data:=.seq vs.toArray }→IntsAre vs ns→ns.length≤n →
  s.gens=#[]→s.os=s₁.os →
  Fr s₁.heap s₁.heap.objs.size s.heap (bindL (envOfC d.name d.scope s₁.heap.objs.size fa cd).kindOf [(x,.ref a)] fun _=>none) →
  Cl s₁.heap.objs.size (cellsFrom (s₁.heap.objs.size+1) d.scope.names []) s.heap (bindC (envOfC d.name d.scope s₁.heap.objs.size fa cd).kindOf [(x,.ref a)] fun _=>none) →
  wpAny (model l.prog w) (callerA.deeper (envOfC d.name d.scope s₁.heap.objs.size fa cd)) (execs d.body (envOfC d.name d.scope s₁.heap.objs.size fa cd))
   (fun f s'=>f=.ret (.bool true)∧(∀b o,s₁.heap.get? b=some o→s'.heap.get? b=some o)∧s'.os=s₁.os∧s'.gens=#[]) (fun _ _=>False) s) :
 WalkN q loose XP YP l.row.toRowW d [] (fun f vs=>PySem.call f vs):=by
 intro w s₀ s₁ mg mb G Y fa o pm cd doc dV kV ho hd hcd hD hmg hg args vals as hpre hlay hrd hwl hlo
 obtain rfl:dV=.none:=Dflts.none hD hdf
 obtain rfl:kV=.none:=Dflts.noKw hD
 obtain⟨a,vs,ns,rfl,rfl,hobj,hints,hlen⟩:=EJ hn hpre hwl
 refine enter_callW ?_
 refine call_cells_ret (o:=o) (by rw[depth_caller];decide) ho (fd_plain hd) G.T.nolimit hcd (hbind pm cd doc (.ref a)) (fun y hy=>?_) (fun h₁ tk F X=>?_) hco hgen hk
 ·obtain rfl:y=(x,Value.ref a):=qAM.mp hy
  rcases hx with e|e
  ·exact .inl e
  ·exact .inr ⟨e,cellsFrom_some _ _ _ (.inl e)⟩
 ·refine wpAny_mono (body w s₀ s₁ { s₁ with heap:=h₁,toks:=tk } mg mb fa o pm cd doc a vs ns G Y ho (fd_plain hd) hcd hmg hobj hints hlen hg rfl F X) (fun f s' hq=>?_) (fun _ _ hq=>hq)
  obtain⟨rfl,h2,h3,h4⟩:=hq
  exact⟨.inl ⟨.bool true,.bool true,[],rfl,fun _=>rfl,.bool true,En l _,fun _=>⟨List.Pairwise.nil,fun _ hm=>(nomatch hm)⟩⟩,h2,h3,h4⟩
section
variable {prog:Program}{w:World}{A:Around}{E:Value→Shared→Prop}{s:Shared}{K:Frag}
theorem Vc {R:Result→Shared→Prop}{name qual:Str}{params:Arguments}{body:List Stmt}{scope:Scope}{dV kV doc pm cdv ct oc:Value}{an od:Option Addr}{osl:Array (Option Value)}{f:Addr}{args:Args}{binds:List (Str×Value)}
 (X:K.In s.heap) (hlim:s.heap.NoLimit) (ho:K.lookup f=some ⟨oc,od,.func (fnOf name qual params body scope dV kV doc pm an cdv ct),osl⟩) (hcd:codeIn K cdv qual=true) (hroom:A.depth<recursionLimit)
 (hbind:BindsTo s (fnOf name qual params body scope dV kV doc pm an cdv ct) args binds)
 (hkind:(binds.all fun y=>scope.names.lookup y.1==some .local||scope.names.lookup y.1==some .cell)=true)
 (h:∀s₁,InCallC s s.heap.objs.size (bindL (envOfC qual scope s.heap.objs.size f cdv).kindOf binds fun _=>none) (cellsFrom (s.heap.objs.size+1) scope.names [])
  (bindC (envOfC qual scope s.heap.objs.size f cdv).kindOf binds fun _=>none) s₁ →
  wpAny (model prog w) (A.deeper (envOfC qual scope s.heap.objs.size f cdv)) (execs body (envOfC qual scope s.heap.objs.size f cdv))
   (fun fl s'=>R (.ok (.ret (match fl with|.ret v=>v|_=>.none))) s')
   (fun e s'=>wpAny (model prog w) (A.deeper (envOfC qual scope s.heap.objs.size f cdv)) (leaving (envOfC qual scope s.heap.objs.size f cdv) e) (fun _ s''=>R (.error e) s'') (fun e' s''=>R (.error e') s'') s') s₁)
 (hco:scope.isCoroutine=false) (hgen:scope.isGenerator=false) (hk:scope.kind=.function):codeAny (model prog w) A (.call (.ref f) args) R s:=by
 refine codeAny_call_function hroom (X _ _ ho) rfl hco hgen rfl (codeRec_of X hcd) (hbind _ _ _ _ ?_)
 refine wpAny_newFunctionEnv_cells hk (kindsX hkind _) fun env he s₁ x=>?_
 subst he
 exact⟨hlim.keeps x.toInCall.keep,codeAny_func (h s₁ x)⟩
theorem TM {R:Result→Shared→Prop}{C fI:Addr}{Cp:List Value}{kw:List (Str×Value)}
 (X:K.In s.heap) (hm:makesIn K C=true) (hi:findIn K (.ref C) "__init__"=some (some (.ref fI))) (hf:isFn K (.ref fI)=true)
 (h:codeAny (model prog w) (A.under (.builtin "type.__call__" ⟨.ref C::Cp,kw⟩)) (.call (.ref fI) ⟨.ref (s.heap.objs.size+1)::Cp,kw⟩) (InitBack (s.heap.objs.size+1) R)
  { s with heap:=(s.heap.push emptyDict).push (instObj C s.heap.objs.size) }):codeAny (model prog w) A (.call (.ref C) ⟨Cp,kw⟩) R s:=by
 obtain⟨hh,g,d,t,os⟩:=s
 exact make_core (makes_of X hm) (looks_findIn X hi) (fun self=>bind_fn X self (beq_iff_eq.mp hf)) (.inl rfl) h
theorem SU {x C:Addr}{ox:Obj}{es:List DictEntry}{n:Nat}{name:Str}{expr:Bool}{v:Value}{Q:Value→Shared→Prop}
 (X:K.In s.heap) (I:PySem.W.InstAt s.heap x ox C (some (dictOf es n))) (hg:plainGet K C name=true) (hh:hasDictIn K C=true) (ha:findIn K (.ref C) name=some none)
 (hl:getL name es=some (some v)) (hv:handedIn v=true) (h:Q v { s with toks:=s.toks+1 }):wpAny (model prog w) A (getAttr (.ref x) name expr) Q E s :=
 get_value X I (plainGet_of hg).1 (findObj_own hh ha rfl hl) hv h
theorem Qv {x C f:Addr}{ox:Obj}{es:List DictEntry}{n:Nat}{name:Str}{pl:Sem Bool}{Q:Value×List Value→Shared→Prop}
 (X:K.In s.heap) (I:PySem.W.InstAt s.heap x ox C (some (dictOf es n))) (hg:plainGet K C name=true) (hf:findIn K (.ref C) name=some (some (.ref f))) (ht:isFn K (.ref f)=true)
 (hl:getL name es=some none) (h:Q (.ref f,[.ref x]) s):wpAny (model prog w) A (getMethod (.ref x) name pl) Q E s :=
 method_fn X I (plainGet_of hg).1 (plainGet_of hg).2 hf (beq_iff_eq.mp ht) (by show(lookIn name (dictOf es n)).map _=_;rw[lookIn_dict,hl];rfl) h
def Ho (h:Heap):Heap:={ h with objs:=#[] }
theorem DJ (h:Heap)(b:Addr):(Ho h).get? b=none:=by
 cases e:(Ho h).get? b with
 |none=>rfl
 |some o=>exact absurd (qAh e) (Nat.not_lt_zero _)
def Ff (h:Heap)(L d:Addr):List (Addr×Obj):=(List.range h.objs.size).filterMap fun a=>if a=L∨a=d then none else (h.get? a).map fun o=>(a,o)
theorem CW {h:Heap}{L d a:Addr}{o:Obj}:(a,o)∈Ff h L d ↔ a≠L∧a≠d∧h.get? a=some o:=by
 unfold Ff
 rw[qBd]
 constructor
 ·rintro⟨b,_,e⟩
  split at e
  ·cases e
  ·rename_i hb
   obtain⟨o',ho,e'⟩:=qBw.mp e
   cases e'
   exact⟨fun q=>hb (.inl q),fun q=>hb (.inr q),ho⟩
 ·rintro⟨n1,n2,ho⟩
  refine⟨a,qAV.mpr (qAh ho),?_⟩
  rw[if_neg (show ¬(a=L∨a=d) from fun q=>q.elim n1 n2),ho]<;>rfl
theorem HJ {h:Heap}{L d:Addr}{od:Obj} (hne:d≠L) (ho:h.get? d=some od):News (Ho h) L h ([]++(d,od)::Ff h L d):=by
 rintro⟨a,o⟩ hp
 rcases qAq.mp hp with e|hp
 ·cases e
  exact⟨ho,hne,DJ _ _⟩
 ·obtain⟨n1,n2,e⟩:=CW.mp hp
  exact⟨e,n1,DJ _ _⟩
theorem Se {h:Heap}{L:Addr}{m:Str→Option Value} (n:h.Ns L m):Fr (Ho h) L h m :=
 ⟨n,fun b o e=>(by rw[DJ] at e;cases e),qAw _⟩
theorem Qt {h:Heap}{L d:Addr}{o o':Obj}:Upd d o o' ((d,o)::Ff h L d) ((d,o')::Ff h L d) :=
 .head fun⟨_,_⟩ hp=>(CW.mp hp).2.1
theorem RH {x C dx L:Addr}{ox:Obj}{m:Str→Option Value}{es es':List DictEntry}{n n':Nat}{name:Str}{v:Value}{Q:Unit→Shared→Prop}
 (X:K.In s.heap) (I:PySem.W.InstAt s.heap x ox C (some (dictOf es n))) (hd:ox.dict=some dx) (hL:s.heap.Ns L m) (hne:dx≠L)
 (hs:findIn K (.ref C) "__setattr__"=some (some (.builtin "object.__setattr__"))) (hp:plainOver K C=true) (ht:takerIn K C name=some none) (hh:hasDictIn K C=true) (hl:(getL name es).isSome=true)
 (e:(putL name (PyData.keyHash w.params name) (.str name (s.toks+1)) v es,putN name es n)=(es',n')) (hz:es'.length≤1000)
 (h:∀h':Heap,h'.Ns L m→h'.get? dx=some (dictOf es' n')→(∀b o,b≠dx→b≠L→s.heap.get? b=some o→h'.get? b=some o)→Q Unit.unit { s with heap:=h',toks:=s.toks+2 }) :
 wpAny (model prog w) A (setAttr (.ref x) name v) Q E s:=by
 obtain⟨e1,e2⟩:=Prod.mk.inj e
 have hdx:s.heap.get? dx=some (dictOf es n):=by
  have:=I.dict
  rw[hd] at this
  exact this
 refine set_plain X I hs (osa_dict (s:={ s with toks:=s.toks+1 }) (h₀:=Ho s.heap) (L:=L) (m:=m) (od:=dictOf es n) (od':=dictOf es' n') (es:=es') (n:=n') (pre:=[]) (post:=Ff s.heap L dx)
  (Se hL) (HJ hne hdx) X I hd hp ht hh hl (fun _ q=>nomatch q) (fun⟨_,_⟩ q=>(CW.mp q).2.1) (by rw[putName_dict,e1,e2]) rfl hz fun h' F' N'=>?_)
 exact h h' F'.ns (N'.get (List.Mem.head _)) fun b o n1 n2 ho=>N'.get (List.Mem.tail _ (CW.mpr ⟨n2,n1,ho⟩))
end
end Att
namespace L2
open PySem PySem.Spec PyProof.Rows
theorem Dq:∀{vs:List Value}{ns:List Int},IntsAre vs ns→AA (ns.map V.int) vs
 |_,_,.nil=>.nil
 |_,_,.cons n t h=>.cons ⟨t,rfl⟩ (Dq h)
end L2
namespace L2
open PySem PySem.Spec PyProof.Rows
def Uu (s:Stmt)(j:Nat):Stmt:=match s with
 |.ClassDef _ _ _ body _ _ _ _ _ _ _=>body.getD j (.Pass ⟨0,0,0,0⟩)
 |_=>.Pass ⟨0,0,0,0⟩
abbrev CX0:CXT:=fun _ _ _ _ _ _=>False
abbrev E0:XK:=fun _ _ _=>False
theorem Vy {X:Cx}:Cq CX0 X E0:=fun _ _ _ _ _ _ _ h=>h.elim
structure Fun (K:PySem.W.Frag)(x qual:Str)(st:Stmt)(f:Addr)(fd:FuncData):Prop where
 ex:∃(oc:Value)(od:Option Addr)(kV doc pm:Value)(an:Option Addr)(cdv ct:Value)(osl:Array (Option Value)),
  fd=PySem.W.fnOf x qual (Ci st) (A4 st) (Ae st) .none kV doc pm an cdv ct∧K.lookup f=some ⟨oc,od,.func fd,osl⟩∧PySem.W.codeIn K cdv qual=true
 kp:PySem.W.keepIn K (.ref f)=true
section
variable {P:Program}{w:World}{K:PySem.W.Frag}{mg:Str→Option Value}{base:Heap}
theorem Fun.ok {x qual:Str}{st:Stmt}{f:Addr}{fd:FuncData}{N ps:List Str}{k:Nat}{sp:Sp} (F:Fun K x qual st f fd) (S:Av N ps (Ae st)) (len:∀vs H Q E,sp vs H Q E→vs.length=ps.length)
 (hbody:∀(cdv:Value)(A:Around)(outer:List Env)(s:Shared)(H:Hp)(vs:List V)(Q:VK)(E:XK),Be k (A.deeper (envOfC qual (Ae st) s.heap.objs.size f cdv))→sp vs H Q E →
  ∃t,PSs (Fn CX0 P w K mg base N qual (Ae st) f cdv A outer s H E).nox (A4 st) t∧t { nx:=fun _ H'=>Q .non H',rt:=Q } (start N vs) H):AJ P w K mg base CX0 (k+1) f fd ps sp:=by
 obtain⟨oc,od,kV,doc,pm,an,cdv,ct,osl,rfl,lk,hcd⟩:=F.ex
 refine JF lk hcd S len fun A outer s H vs Q E hr hsp=>?_
 obtain⟨t,h,q⟩:=hbody cdv A outer s H vs Q E hr hsp
 exact⟨t,h.nox,q⟩
theorem Fun.binds {x qual:Str}{st:Stmt}{f:Addr}{fd:FuncData}{ps:List Str} (F:Fun K x qual st f fd)
 (h:∀(kV doc pm:Value)(an:Option Addr)(cdv ct:Value)(us:List Value),us.length=ps.length→bindArgs (PySem.W.fnOf x qual (Ci st) (A4 st) (Ae st) .none kV doc pm an cdv ct) ⟨us,[]⟩=pure (ps.zip us)):Binds K fd ps []:=by
 obtain⟨oc,od,kV,doc,pm,an,cdv,ct,osl,rfl,lk,hcd⟩:=F.ex
 exact .all (h kV doc pm an cdv ct)
theorem Ja {x qual:Str}{st:Stmt}{f:Addr}{oc:Value}{od an:Option Addr}{osl:Array (Option Value)}{kV doc pm cdv ct:Value} (l:K.lookup f=some ⟨oc,od,.func (PySem.W.fnOf x qual (Ci st) (A4 st) (Ae st) .none kV doc pm an cdv ct),osl⟩)
 (c:PySem.W.codeIn K cdv qual=true) (k:PySem.W.keepIn K (.ref f)=true):Fun K x qual st f (PySem.W.fnOf x qual (Ci st) (A4 st) (Ae st) .none kV doc pm an cdv ct):=⟨⟨oc,od,kV,doc,pm,an,cdv,ct,osl,rfl,l,c⟩,k⟩
end
theorem Y3 {A:Around}{k:Nat} (hr:Be k A):A.units+1<cLine:=qCj (Nat.add_le_add_left (by decide:1≤64) _) hr.units
theorem LC {n:Nat} (h:n≤1000):n<sizeLine:=qCj h ∅
section
variable {X:Cx}
theorem pv (i:Nat){x:Str}{pos:Pos} (hN:X.N[i]? = some x:=by rfl) (hv:Vis X.env.scope x:=by first|exact Or.inl rfl|exact Or.inr (Or.inl rfl)|exact Or.inr (Or.inr rfl)) (hd:(x==("__debug__":Str))=false:=by decide)
 (hcd:(x==("__classdict__":Str))=false:=by decide):PE X (.Name x pos) (Gw i):=C2 hN hv hd hcd
end
theorem Zj {A B:Prop} (h:B):if false=true then A else B:=by
 rw[if_neg qAe]
 exact h
theorem ZT {A B:Prop} (h:A):if true=true then A else B:=by
 rw[if_pos rfl]
 exact h
theorem ZO {c A B:Prop} [Decidable c] (h1:c→A) (h2:¬c→B):if c then A else B:=by
 by_cases h:c
 ·rw[if_pos h]
  exact h1 h
 ·rw[if_neg h]
  exact h2 h
theorem Zz {c A B:Prop} [Decidable c] (hc:c) (h:B):if (!decide c)=true then A else B:=by
 rw[decide_eq_true hc]
 exact Zj h
def AU (H H':Hp):Prop:=∀b o,H b=some o→H' b=some o
theorem AU.refl (H:Hp):AU H H:=fun _ _ h=>h
theorem AU.trans {H H1 H2:Hp} (a:AU H H1) (b:AU H1 H2):AU H H2:=fun c o h=>b c o (a c o h)
theorem AU.free {H H':Hp} (e:AU H H'){l:Addr} (h:H' l=Option.none):H l=Option.none:=by
 cases q:H l with
 |none=>rfl
 |some o =>
  rw[e l o q] at h
  cases h
theorem AU.seq {K:PySem.W.Frag}{H H':Hp}{a:Addr}{xs:List V} (e:AU H H') (h:SqL K H a xs):SqL K H' a xs:=by
 rcases h with (h|⟨o,h⟩)|h
 ·exact .inl (.inl (e _ _ h))
 ·exact .inl (.inr ⟨o,e _ _ h⟩)
 ·exact .inr h
end L2
set_option maxHeartbeats 4000000
namespace CH
def g (a b:Int):Int:=(Int.gcd a b:Int)
theorem ZM (a b:Int):0≤g a b:=Int.natCast_nonneg _
theorem WY (a b:Int):g a b=g b a:=by unfold g;rw[qCQ]
theorem QE {a b:Int} (h:b≠0):0<g a b:=by
 have:=Int.gcd_pos_of_ne_zero_right a h
 unfold g;omega
theorem WB {x y:Int} (hy:0<y):g y (x%y)=g x y:=by
 unfold g
 have e:x%y=x-y*(x/y):=Int.emod_def x y
 rw[e,Int.gcd_sub_mul_left_right,qCQ]
theorem YG {x:Int} (hx:0≤x):g x 0=x:=by
 unfold g;rw[Int.gcd_zero];omega
theorem Y0 (a b:Int):g (if a<0 then -a else a) (if b<0 then -b else b)=g a b:=by
 unfold g
 split<;>split<;>simp
theorem IC (a b:Int):g a b ∣ a:=Int.gcd_dvd_left a b
theorem Iz (a b:Int):g a b ∣ b:=Int.gcd_dvd_right a b
theorem Wb {a b:Int} (h:g a b=0):a=0∧b=0:=by
 unfold g at h
 have h':Int.gcd a b=0:=()
 exact⟨by have:=IC a b;unfold g at this;rw[h'] at this;simpa using this,by have:=Iz a b;unfold g at this;rw[h'] at this;simpa using this⟩
theorem X7 (a b c:Int):c ∣ g (a*c) (b*c):=by
 unfold g
 rw[Int.gcd_mul_right]
 exact⟨(Int.gcd a b:Int)*c.sign,by
  have e:((c.natAbs:Nat):Int)=c.sign*c:=by
   rcases Int.lt_trichotomy c 0 with h|h|h
   ·rw[qCn h];omega
   ·subst h;rfl
   ·rw[qCE h];omega
  rw[Int.natCast_mul,e];grind⟩
def cm (a b:Int):Int:=if b<0 then -(g a b) else g a b
theorem Fm {a c:Int} (h:c ∣ a) (hc:c≠0):Int.fdiv a c*c=a:=by
 obtain⟨k,rfl⟩:=h
 rw[Int.mul_comm c k,qCb _ hc]
theorem Lm {a b:Int} (hb:b≠0):Int.fdiv a (cm a b)=(Rat.divInt a b).num∧Int.fdiv b (cm a b)=((Rat.divInt a b).den:Int):=by
 have hg:=QE (a:=a) hb
 have d1:=IC a b
 have d2:=Iz a b
 rw[Rat.num_divInt,Rat.den_divInt,if_neg hb]
 have eg:((b.gcd a:Nat):Int)=g a b:=by unfold g;rw[qCQ]
 rw[Int.natCast_ediv,eg]
 unfold cm
 split
 ·rename_i h
  rw[qCn h]
  have e1:(-1*a)/g a b=Int.fdiv a (-(g a b)):=by
   obtain⟨k,hk⟩:=d1
   have:-1*a=(-k)*g a b:=⋯
   rw[this,Int.mul_ediv_cancel _ ()]
   have:a=(-k)*(-(g a b)):=⋯
   have q:=qCb (-k) (show -(g a b)≠0 from ())
   rw[←this] at q
   exact q.symm
  have e2:((b.natAbs:Nat):Int)/g a b=Int.fdiv b (-(g a b)):=by
   obtain⟨k,hk⟩:=d2
   have hn:((b.natAbs:Nat):Int)=-b:=()
   rw[hn]
   have:-b=(-k)*g a b:=⋯
   rw[this,Int.mul_ediv_cancel _ ()]
   have:b=(-k)*(-(g a b)):=⋯
   have q:=qCb (-k) (show -(g a b)≠0 from ())
   rw[←this] at q
   exact q.symm
  exact⟨e1.symm,e2.symm⟩
 ·rename_i h
  have hp:0<b:=()
  rw[qCE hp,Int.one_mul]
  have hn:((b.natAbs:Nat):Int)=b:=()
  rw[hn,qAZ _ (),qAZ _ ()]
  exact⟨rfl,rfl⟩
theorem Mq {a b:Int} (hb:b≠0):cm a b≠0:=by
 have:=QE (a:=a) hb
 unfold cm;split<;>omega
theorem den_pos (q:Rat):1≤(q.den:Int):=by have:=q.den_pos;omega
theorem Vg (q:Rat):g q.num q.den=1:=by
 have:=q.reduced
 unfold g
 rw[Int.gcd_eq_natAbs_gcd_natAbs]
 show((Nat.gcd q.num.natAbs q.den:Nat):Int)=1
 rw[this];rfl
theorem Dy (q:Rat):(q.num:Rat)=q*q.den:=by
 have h:=Rat.num_divInt_den q
 rw[qBk] at h
 have hd:((q.den:Int):Rat)≠0:=by
  have:=q.den_nz
  simp[this]
 have e:((q.den:Int):Rat)=(q.den:Rat):=rfl
 rw[e] at h hd
 grind
theorem den_ne (q:Rat):(q.den:Rat)≠0:=by have:=q.den_nz;simp[this]
theorem K9 (q:Rat){a b:Int} (hb:b≠0):q.num*b=a*(q.den:Int) ↔ q=(a:Rat)/(b:Rat):=by
 have hb':(b:Rat)≠0:=by simpa using hb
 have hd:=den_ne q
 have hn:=Dy q
 constructor
 ·intro h
  have h2:(q.num:Rat)*b=a*q.den:=by
   have this:((q.num*b:Int):Rat)=((a*(q.den:Int):Int):Rat):=by rw[h]
   rw[qAR,qAR] at this
   exact this
  grind
 ·intro h
  have h2:((q.num*b:Int):Rat)=((a*(q.den:Int):Int):Rat):=by
   rw[qAR,qAR]
   have e:((q.den:Int):Rat)=(q.den:Rat):=rfl
   rw[e,hn]
   grind
  exact Rat.intCast_inj.mp h2
theorem lt_iff (p q:Rat):p.num*(q.den:Int)<q.num*(p.den:Int) ↔ p<q:=(Rat.lt_iff p q).symm
theorem PY (p q:Rat):Rat.divInt (p.num*q.den+q.num*p.den) ((p.den:Int)*q.den)=p+q:=by
 rw[qBk,Rat.intCast_add,qAR,qAR,qAR,Dy p,Dy q]
 have h1:=den_ne p
 have h2:=den_ne q
 have e1:((p.den:Int):Rat)=(p.den:Rat):=rfl
 have e2:((q.den:Int):Rat)=(q.den:Rat):=rfl
 rw[e1,e2]
 grind
theorem M0 (p q:Rat):Rat.divInt (p.num*q.den-q.num*p.den) ((p.den:Int)*q.den)=p-q:=by
 rw[qBk,Rat.intCast_sub,qAR,qAR,qAR,Dy p,Dy q]
 have h1:=den_ne p
 have h2:=den_ne q
 have e1:((p.den:Int):Rat)=(p.den:Rat):=rfl
 have e2:((q.den:Int):Rat)=(q.den:Rat):=rfl
 rw[e1,e2]
 grind
theorem NC (p q:Rat):Rat.divInt (p.num*q.num) ((p.den:Int)*q.den)=p*q:=by
 rw[qBk,qAR,qAR,Dy p,Dy q]
 have h1:=den_ne p
 have h2:=den_ne q
 have e1:((p.den:Int):Rat)=(p.den:Rat):=rfl
 have e2:((q.den:Int):Rat)=(q.den:Rat):=rfl
 rw[e1,e2]
 grind
theorem Pq (p q:Rat)(hq:q≠0):Rat.divInt (p.num*q.den) ((p.den:Int)*q.num)=p/q:=by
 rw[qBk,qAR,qAR,Dy p,Dy q]
 have h1:=den_ne p
 have h2:=den_ne q
 have e1:((p.den:Int):Rat)=(p.den:Rat):=rfl
 have e2:((q.den:Int):Rat)=(q.den:Rat):=rfl
 rw[e1,e2]
 grind
end CH
namespace CH
def Sz (k:Nat)(q:Rat):Prop:=q.num.natAbs<2^k∧q.den<2^k
theorem KI {k m:Nat} (h:k≤m):2^k≤2^m:=Nat.pow_le_pow_right ∅ h
theorem Sz.mono {k m:Nat}{q:Rat} (h:Sz k q) (hk:k≤m):Sz m q:=⟨qAr h.1 (KI hk),qAr h.2 (KI hk)⟩
theorem DD {a c x:Int} (h:x*c=a) (hc:c≠0):x.natAbs≤a.natAbs:=by
 rw[←h,qCI]
 exact Nat.le_mul_of_pos_right _ ()
theorem Du {a b:Int}{k:Nat} (hb:b≠0) (h1:a.natAbs<2^k) (h2:b.natAbs<2^k):Sz k (Rat.divInt a b):=by
 have p:=Lm (a:=a) hb
 have d1:cm a b ∣ a:=by
  unfold cm;split
  ·exact Int.neg_dvd.mpr (IC a b)
  ·exact IC a b
 have d2:cm a b ∣ b:=by
  unfold cm;split
  ·exact Int.neg_dvd.mpr (Iz a b)
  ·exact Iz a b
 have e1:=DD (Fm d1 (Mq hb)) (Mq hb)
 have e2:=DD (Fm d2 (Mq hb)) (Mq hb)
 rw[p.1] at e1
 rw[p.2] at e2
 have e3:(((Rat.divInt a b).den:Int)).natAbs=(Rat.divInt a b).den:=Int.natAbs_natCast _
 rw[e3] at e2
 exact⟨(),()⟩
theorem C3 {a b:Int}{k m:Nat} (h1:a.natAbs<2^k) (h2:b.natAbs<2^m):(a*b).natAbs<2^(k+m):=by
 rw[qCI,Nat.pow_add]
 exact Nat.mul_lt_mul'' h1 h2
theorem Sq {a b:Int}{k:Nat} (h1:a.natAbs<2^k) (h2:b.natAbs<2^k):(a+b).natAbs<2^(k+1):=by
 rw[Nat.pow_succ]
 generalize 2^k=p at *
 omega
theorem SY {a b:Int}{k:Nat} (h1:a.natAbs<2^k) (h2:b.natAbs<2^k):(a-b).natAbs<2^(k+1):=by
 rw[Nat.pow_succ]
 generalize 2^k=p at *
 omega
theorem Cn {k:Nat}{q:Rat} (h:Sz k q):((q.den:Int)).natAbs<2^k:=by rw[Int.natAbs_natCast];exact h.2
theorem OB (p q:Rat):(p.den:Int)*(q.den:Int)≠0:=by
 have h1:=den_pos p
 have h2:=den_pos q
 exact Int.mul_ne_zero () ()
theorem QH {k m:Nat}{x:Nat} (h:x<2^k) (e:k≤m):x<2^m:=qAr h (KI e)
theorem Sz.add {k m:Nat}{p q:Rat} (hp:Sz k p) (hq:Sz m q):Sz (k+m+1) (p+q):=by
 rw[←PY]
 have a1:=C3 hp.1 (Cn hq)
 have a2:=C3 hq.1 (Cn hp)
 have a3:=C3 (Cn hp) (Cn hq)
 rw[qCP m k] at a2
 exact Du (OB p q) (Sq a1 a2) (QH a3 (qA4 _))
theorem Sz.sub {k m:Nat}{p q:Rat} (hp:Sz k p) (hq:Sz m q):Sz (k+m+1) (p-q):=by
 rw[←M0]
 have a1:=C3 hp.1 (Cn hq)
 have a2:=C3 hq.1 (Cn hp)
 have a3:=C3 (Cn hp) (Cn hq)
 rw[qCP m k] at a2
 exact Du (OB p q) (SY a1 a2) (QH a3 (qA4 _))
theorem Sz.mul {k m:Nat}{p q:Rat} (hp:Sz k p) (hq:Sz m q):Sz (k+m) (p*q):=by
 rw[←NC]
 exact Du (OB p q) (C3 hp.1 hq.1) (C3 (Cn hp) (Cn hq))
theorem Sz.neg {k:Nat}{p:Rat} (hp:Sz k p):Sz k (-p):=⟨by rw[Rat.neg_num,Int.natAbs_neg];exact hp.1,hp.2⟩
theorem Sz.zero:Sz 1 0:=⟨∅,∅⟩
theorem Sz.den_ne {k:Nat}{p q:Rat} (hq:q≠0):(p.den:Int)*q.num≠0:=by
 have h1:=den_pos p
 have h2:q.num≠0:=fun z=>hq (Rat.num_eq_zero.mp z)
 exact Int.mul_ne_zero () h2
theorem Wq {q:Rat} (hq:q≠0):q.num≠0:=fun z=>hq (Rat.num_eq_zero.mp z)
theorem Sz.div {k m:Nat}{p q:Rat} (hp:Sz k p) (hq:Sz m q) (h0:q≠0):Sz (k+m) (p/q):=by
 rw[←Pq p q h0]
 exact Du (Sz.den_ne (k:=0) h0) (C3 hp.1 (Cn hq)) (C3 (Cn hp) hq.1)
theorem Te {q:Rat}{a b:Int} (hb:b≠0) (h:q=Rat.divInt a b):q.num*b=a*(q.den:Int):=by
 rw[K9 q hb,h,qBk]
end CH
namespace L3
open PySem PySem.Spec PyProof.Rows L2
abbrev St:=L2.St
def Jd:Expr→Bool
 |.Starred .. => true
 |_=>false
theorem AI {e:Expr}{es:List Expr}{env:Env} (h:Jd e=false):starEach (e::es) env=(false,eval e env)::starEach es env:=by
 cases e<;>first|rfl|cases h
theorem A1 {pos:Pos}{env:Env}:∀{es:List Expr},es.all (fun e=>!Jd e)=true→(backTo pos (starEach es env)).any (·.1)=false
 |[],_=>rfl
 |e::es,h=>by
  rw[qCm,qAF] at h
  have h1:Jd e=false:=by
   cases q:Jd e with
   |false=>rfl
   |true=>rw[q] at h;exact absurd h.1 ∅
  rw[AI h1]
  show(false||(backTo pos (starEach es env)).any (·.1))=false
  rw[A1 h.2]
  rfl
inductive D where
 |non|bl (b:Bool)|int (i:Int)|str (x:Str)|ty (n:String)|tup (xs:List D)|lst (xs:List D)|ref (a:Addr)|obj (c:Str) (ns:List Str) (xs:List D)|dic (ks:List Str)
inductive S where
 |d (x:D)|l (xs:List D)|r (xs:List D)
def S.isL:S→Bool
 |.d _=>false
 |_=>true
def S.share:S→S
 |.l xs=>.r xs
 |s=>s
def S.own:S→Bool
 |.l _=>true
 |_=>false
def kts (ks:List Str):List (Key×V):=ks.map fun x=>(.inr x,.bl true)
inductive Is (K:PySem.W.Frag)(H:Hp):V→D→Prop where
 |non:Is K H .non .non
 |bl (b:Bool):Is K H (.bl b) (.bl b)
 |int (i:Int):Is K H (.int i) (.int i)
 |str (x:Str):Is K H (.str x) (.str x)
 |ty (n:String):Is K H (.ty n) (.ty n)
 |ref (a:Addr):Is K H (.ref a) (.ref a)
 |tup {a:Addr}{vs:List V}{xs:List D} (h:SqT K H a vs) (hl:vs.length=xs.length) (r:∀(i:Nat)(v:V)(x:D),vs[i]? = some v→xs[i]? = some x→Is K H v x):Is K H (.ref a) (.tup xs)
 |lst {a:Addr}{vs:List V}{xs:List D} (h:H a=some (.lst vs)) (hl:vs.length=xs.length) (r:∀(i:Nat)(v:V)(x:D),vs[i]? = some v→xs[i]? = some x→Is K H v x):Is K H (.ref a) (.lst xs)
 |obj {a dx C:Addr}{c:Str}{fs:List (Str×V)}{ns:List Str}{xs:List D} (hc:PySem.W.nsIn K mainGlobals c=some (some (.ref C))) (h:H a=some (.ins C dx fs)) (hd:H dx=some (.own a)) (hn:fs.map (·.1)=ns) (hl:fs.length=xs.length) (r:∀(i:Nat)(f:Str×V)(x:D),fs[i]? = some f→xs[i]? = some x→Is K H f.2 x):Is K H (.ref a) (.obj c ns xs)
 |dic {a:Addr}{ks:List Str} (h:H a=some (.dK (kts ks))):Is K H (.ref a) (.dic ks)
def Iss (K:PySem.W.Frag)(H:Hp)(vs:List V)(xs:List D):Prop :=
 vs.length=xs.length∧∀(i:Nat)(v:V)(x:D),vs[i]? = some v→xs[i]? = some x→Is K H v x
structure HZ where
 h:Hp
 z:Hp
structure Ext (p q:HZ):Prop where
 hh:AU p.h q.h
 zz:AU p.z q.z
 sub:AU q.z q.h
 new:∀a o,q.z a=some o→p.z a=some o∨p.h a=none
theorem Ext.refl {p:HZ} (h:AU p.z p.h):Ext p p:=⟨AU.refl _,AU.refl _,h,fun _ _ e=>.inl e⟩
theorem Ext.trans {p q r:HZ} (a:Ext p q) (b:Ext q r):Ext p r:=⟨a.hh.trans b.hh,a.zz.trans b.zz,b.sub,fun c o e=>by
 rcases b.new c o e with e|e
 ·exact a.new c o e
 ·exact .inr (a.hh.free e)⟩
theorem Ext.grow {H H' z:Hp} (h:AU z H) (e:AU H H'):Ext ⟨H,z⟩ ⟨H',z⟩:=⟨e,AU.refl _,h.trans e,fun _ _ e=>.inl e⟩
theorem AY {H:Hp}{p:Addr} (h:H p=none) (o:HO):AU H (upd H p o):=fun b u q=>by rw[Af (Am q h)];exact q
theorem Ext.freeze {p q:HZ}{a:Addr}{o:HO} (e:Ext p q) (n:p.h a=none) (nz:q.z a=none) (h:q.h a=some o):Ext p ⟨q.h,upd q.z a o⟩:=by
 refine⟨e.hh,e.zz.trans (AY nz o),fun b u hb=>?_,fun b u hb=>?_⟩
 ·by_cases z:b=a
  ·subst z
   have hb':upd q.z b o b=some u:=hb
   rw[Ac] at hb'
   cases hb'
   exact h
  ·have hb':upd q.z a o b=some u:=hb
   rw[Af z] at hb'
   exact e.sub b u hb'
 ·by_cases z:b=a
  ·subst z;exact .inr n
  ·have hb':upd q.z a o b=some u:=hb
   rw[Af z] at hb'
   exact e.new b u hb'
theorem Ext.own {H z:Hp}{a:Addr} (h:AU z H) (n:H a=none) (o:HO):Ext ⟨H,z⟩ ⟨upd H a o,z⟩:=Ext.grow h (AY n o)
theorem Ext.lay {H z:Hp}{a:Addr} (h:AU z H) (n:H a=none) (o:HO):Ext ⟨H,z⟩ ⟨upd H a o,upd z a o⟩ :=
 (Ext.own h n o).freeze n (h.free n) Ac
def IsS (K:PySem.W.Frag)(p:HZ)(v:V):S→Prop
 |.d x=>Is K p.z v x
 |.l xs=>∃a vs,v=.ref a∧p.h a=some (.lst vs)∧Iss K p.z vs xs
 |.r xs=>∃a vs,v=.ref a∧SqL K p.h a vs∧Iss K p.z vs xs
section
variable {K:PySem.W.Frag}{H H':Hp}{p q:HZ}{a:Addr}{v:V}{x:D}{vs:List V}{xs:List D}
theorem SqT.same (e:AU H H')(h:SqT K H a vs):SqT K H' a vs:=by
 rcases h with (h|⟨o,h⟩)|h
 ·exact .inl (.inl (e _ _ h))
 ·exact .inl (.inr ⟨o,e _ _ h⟩)
 ·exact .inr h
theorem Is.mono (e:AU H H')(h:Is K H v x):Is K H' v x:=by
 induction h with
 |non=>exact .non
 |bl b=>exact .bl b
 |int i=>exact .int i
 |str y=>exact .str y
 |ty n=>exact .ty n
 |ref a=>exact .ref a
 |tup h hl r ih=>exact .tup (SqT.same e h) hl ih
 |lst h hl r ih=>exact .lst (e _ _ h) hl ih
 |obj hc h hd hn hl r ih=>exact .obj hc (e _ _ h) (e _ _ hd) hn hl ih
 |dic h=>exact .dic (e _ _ h)
theorem Iss.mono (e:AU H H')(h:Iss K H vs xs):Iss K H' vs xs:=⟨h.1,fun i v x h1 h2=>(h.2 i v x h1 h2).mono e⟩
theorem Iss.nil:Iss K H [] []:=⟨rfl,fun i v x h=>by simp at h⟩
theorem Iss.cons (h:Is K H v x)(t:Iss K H vs xs):Iss K H (v::vs) (x::xs):=by
 refine⟨by simp[t.1],fun i w y h1 h2=>?_⟩
 cases i with
 |zero =>
  simp at h1 h2
  subst h1;subst h2
  exact h
 |succ i=>exact t.2 i w y (by simpa using h1) (by simpa using h2)
theorem Iss.snoc (t:Iss K H vs xs)(h:Is K H v x):Iss K H (vs++[v]) (xs++[x]):=by
 refine⟨by simp[t.1],fun i w y h1 h2=>?_⟩
 by_cases hi:i<vs.length
 ·rw[qAI hi] at h1
  rw[qAI (by have:=t.1;omega)] at h2
  exact t.2 i w y h1 h2
 ·rw[qAL ()] at h1
  rw[qAL (by have:=t.1;omega)] at h2
  have e:i-vs.length=0:=by
   have:=(qAj.mp h1).1
   simp at this
   omega
  have e2:i-xs.length=0:=by have:=t.1;omega
  rw[e] at h1
  rw[e2] at h2
  simp at h1 h2
  subst h1;subst h2
  exact h
theorem IsS.mono {s:S} (e:Ext p q) (h:IsS K p v s):IsS K q v s:=by
 cases s with
 |d x=>exact Is.mono e.zz h
 |l xs =>
  obtain⟨a,vs,e1,h1,h2⟩:=h
  exact⟨a,vs,e1,e.hh _ _ h1,h2.mono e.zz⟩
 |r xs =>
  obtain⟨a,vs,e1,h1,h2⟩:=h
  exact⟨a,vs,e1,e.hh.seq h1,h2.mono e.zz⟩
theorem IsS.share {s:S} (h:IsS K p v s):IsS K p v s.share:=by
 cases s with
 |d x=>exact h
 |l xs =>
  obtain⟨a,vs,e1,h1,h2⟩:=h
  exact⟨a,vs,e1,SqL.of h1,h2⟩
 |r xs=>exact h
theorem Is.tup_inv {xs:List D} (h:Is K H v (.tup xs)):∃a vs,v=.ref a∧SqT K H a vs∧Iss K H vs xs:=by
 cases h with
 |tup h hl r=>exact⟨_,_,rfl,h,hl,r⟩
theorem Is.lst_inv {xs:List D} (h:Is K H v (.lst xs)):∃a vs,v=.ref a∧SqL K H a vs∧Iss K H vs xs:=by
 cases h with
 |lst h hl r=>exact⟨_,_,rfl,SqL.of h,hl,r⟩
theorem Is.lst_own {xs:List D} (h:Is K H v (.lst xs)):∃a vs,v=.ref a∧H a=some (.lst vs)∧Iss K H vs xs:=by
 cases h with
 |lst h hl r=>exact⟨_,_,rfl,h,hl,r⟩
theorem Is.int_inv {i:Int} (h:Is K H v (.int i)):v=.int i:=by cases h;rfl
theorem Is.bl_inv {i:Bool} (h:Is K H v (.bl i)):v=.bl i:=by cases h;rfl
theorem Is.non_inv (h:Is K H v .non):v=.non:=by cases h;rfl
theorem Is.str_inv {i:Str} (h:Is K H v (.str i)):v=.str i:=by cases h;rfl
theorem Is.ty_inv {i:String} (h:Is K H v (.ty i)):v=.ty i:=by cases h;rfl
end
abbrev Tau:=List (Option S)
def Fr3 (K:PySem.W.Frag)(p q:HZ)(v:V)(s:S):Prop:=∀xs a,s=.l xs→v=.ref a→p.h a=none∧K.lookup a=none∧q.z a=none
structure Rep (X:Cx)(b:HZ)(τ:Tau)(σ:St)(p:HZ):Prop where
 len:σ.length=τ.length
 ext:Ext b p
 val:∀(i:Nat)(s:S),τ[i]? = some (some s)→∃v,σ[i]? = some (some v)∧IsS X.K p v s
 own:∀(i:Nat)(xs:List D)(a:Addr),τ[i]? = some (some (.l xs))→σ[i]? = some (some (.ref a))→b.h a=none∧X.K.lookup a=none∧p.z a=none
 sep:∀(i j:Nat)(xs:List D)(s:S)(a:Addr),i≠j→τ[i]? = some (some (.l xs))→τ[j]? = some (some s)→s.isL=true→σ[i]? = some (some (.ref a))→σ[j]?≠some (some (.ref a))
 top:X.lent=none→AU X.H₀ b.h
 pin:∀i a,X.lent=some (i,a)→σ[i]? = some (some (.ref a))
def Bi (X:Cx)(i:Nat):Prop:=∀k a,X.lent=some (k,a)→k≠i
theorem AZ {X:Cx}{i:Nat} (h:X.lent=none):Bi X i:=fun k a e=>by rw[h] at e;cases e
theorem A0 {X:Cx}{i k:Nat}{a:Addr} (h:X.lent=some (k,a)) (n:k≠i):Bi X i:=fun k' a' e=>by rw[h] at e;cases e;exact n
section
variable {X:Cx}{b b' p q:HZ}{τ τ':Tau}{σ:St}{v:V}{s:S}
theorem Rep.all (r:Rep X b τ σ p)(hl:X.lent=none):AU X.H₀ p.h:=(r.top hl).trans r.ext.hh
theorem Rep.own_list {i:Nat}{xs:List D}{a:Addr} (r:Rep X b τ σ p) (h1:τ[i]? = some (some (.l xs))) (h2:σ[i]? = some (some (.ref a))):∃vs,p.h a=some (.lst vs)∧Iss X.K p.z vs xs:=by
 obtain⟨v,e,c,vs,e1,h3,h4⟩:=r.val i _ h1
 rw[h2] at e
 cases e
 cases e1
 exact⟨vs,h3,h4⟩
theorem Rep.mono (r:Rep X b τ σ p)(e:Ext p q):Rep X b τ σ q :=
 ⟨r.len,r.ext.trans e,fun i s h=>let ⟨v,h1,h2⟩:=r.val i s h;⟨v,h1,h2.mono e⟩,(fun i xs a h1 h2=>by
  obtain⟨o1,o2,o3⟩:=r.own i xs a h1 h2
  obtain⟨vs,hv,_⟩:=r.own_list h1 h2
  refine⟨o1,o2,?_⟩
  cases z:q.z a with
  |none=>rfl
  |some o =>
   rcases e.new a o z with x|x
   ·rw[o3] at x;cases x
   ·rw[hv] at x;cases x),r.sep,r.top,r.pin⟩
theorem CA {K:PySem.W.Frag} (e:Ext b p) (f:Fr3 K p q v s):Fr3 K b q v s:=fun xs a h1 h2=>⟨e.hh.free (f xs a h1 h2).1,(f xs a h1 h2).2⟩
theorem Ar {α:Type}{l:List (Option α)}{i j:Nat}{x y:α} (h:(l.set i (some x))[j]? = some (some y)):(j=i∧y=x)∨(j≠i∧l[j]? = some (some y)):=by
 rw[qCp] at h
 by_cases hij:i=j
 ·rw[if_pos hij] at h
  split at h
  ·cases h
   exact .inl ⟨hij.symm,rfl⟩
  ·cases h
 ·rw[if_neg hij] at h
  exact .inr ⟨fun z=>hij z.symm,h⟩
theorem Rep.set {i:Nat} (r:Rep X b τ σ p) (e:Ext p q) (h:IsS X.K q v s) (f:Fr3 X.K p q v s) (hr:s.isL=s.own) (hp:Bi X i):Rep X b (τ.set i (some s)) (σ.set i (some v)) q:=by
 have r':=r.mono e
 refine⟨by simp[r.len],r'.ext,fun j s' hj=>?_,fun j xs a hj ha=>?_,fun j k xs s' a hjk hj hk hs ha=>?_,r.top,fun k a hk=>by rw[qBE (fun z=>hp k a hk z.symm)];exact r.pin k a hk⟩
 ·rcases Ar hj with⟨rfl,rfl⟩|⟨hn,hj⟩
  ·have hl:j<σ.length:=by
    rw[r.len]
    have:=(qAj.mp hj).1
    simpa using this
   exact⟨v,by rw[qBh hl],h⟩
  ·obtain⟨w,h1,h2⟩:=r'.val j s' hj
   exact⟨w,by rw[qBE (fun z=>hn z.symm)];exact h1,h2⟩
 ·rcases Ar hj with⟨rfl,e1⟩|⟨hn,hj⟩
  ·rcases Ar ha with⟨_,e2⟩|⟨hn,_⟩
   ·exact(CA r.ext f) xs a e1.symm e2.symm
   ·exact absurd rfl hn
  ·rcases Ar ha with⟨e2,_⟩|⟨_,ha⟩
   ·exact absurd e2 hn
   ·exact r'.own j xs a hj ha
 ·
  have fresh:∀(m:Nat)(t:S),τ[m]? = some (some t)→t.isL=true→s.own=true→v=.ref a→σ[m]?≠some (some (.ref a)):=by
   intro m t hm ht ho hv hσ
   obtain⟨w,h1,h2⟩:=r.val m t hm
   rw[hσ] at h1
   cases h1
   cases s with
   |d _=>cases ho
   |r _=>cases ho
   |l ys =>
    obtain⟨f1,f2,_⟩:=f ys a rfl hv
    cases t with
    |d _=>cases ht
    |l zs =>
     obtain⟨c,vs,e1,h3,_⟩:=h2
     cases e1
     rw[f1] at h3
     cases h3
    |r zs =>
     obtain⟨c,vs,e1,h3,_⟩:=h2
     cases e1
     rcases h3 with (h3|⟨o,h3⟩)|⟨o,its,n,h3,_⟩
     ·rw[f1] at h3;cases h3
     ·rw[f1] at h3;cases h3
     ·rw[f2] at h3;cases h3
  intro hσk
  rcases Ar hj with⟨rfl,e1⟩|⟨hn,hj'⟩
  ·rcases Ar ha with⟨_,e2⟩|⟨hn,_⟩
   ·rcases Ar hk with⟨e3,_⟩|⟨_,hk⟩
    ·exact hjk e3.symm
    ·rcases Ar hσk with⟨e4,_⟩|⟨_,hσk⟩
     ·exact hjk e4.symm
     ·exact fresh k s' hk hs (by rw[←e1];rfl) e2.symm hσk
   ·exact absurd rfl hn
  ·rcases Ar ha with⟨e2,_⟩|⟨_,ha'⟩
   ·exact absurd e2 hn
   ·rcases Ar hk with⟨e3,e4⟩|⟨hkn,hk'⟩
    ·rcases Ar hσk with⟨_,e5⟩|⟨hx,_⟩
     ·subst e4
      exact fresh j (.l xs) hj' rfl (by rw[←hr];exact hs) e5.symm ha'
     ·exact absurd e3 hx
    ·rcases Ar hσk with⟨e5,_⟩|⟨_,hσk'⟩
     ·exact absurd e5 hkn
     ·exact r.sep j k xs s' a hjk hj' hk' hs ha' hσk'
theorem Rep.freeze {i:Nat}{xs:List D} (r:Rep X b τ σ p) (h:τ[i]? = some (some s)) (e:s.share=.r xs):Rep X b (τ.set i (some (.r xs))) σ p:=by
 have hs:s.isL=true:=by
  cases s with
  |d _=>cases e
  |l _=>rfl
  |r _=>rfl
 refine⟨by simp[r.len],r.ext,fun j s' hj=>?_,fun j ys a hj ha=>?_,fun j k ys s' a hjk hj hk hs' ha=>?_,r.top,r.pin⟩
 ·rcases Ar hj with⟨rfl,rfl⟩|⟨hn,hj⟩
  ·obtain⟨v,h1,h2⟩:=r.val j s h
   exact⟨v,h1,by rw[←e];exact h2.share⟩
  ·exact r.val j s' hj
 ·rcases Ar hj with⟨rfl,e1⟩|⟨hn,hj⟩
  ·cases e1
  ·exact r.own j ys a hj ha
 ·rcases Ar hj with⟨rfl,e1⟩|⟨hn,hj'⟩
  ·cases e1
  ·rcases Ar hk with⟨rfl,e4⟩|⟨hkn,hk'⟩
   ·exact r.sep j k ys s a hjk hj' h hs ha
   ·exact r.sep j k ys s' a hjk hj' hk' hs' ha
theorem Rep.data {i:Nat}{xs:List D}{h z:Hp} (r:Rep X b τ σ ⟨h,z⟩) (hi:τ[i]? = some (some (.l xs))):∃z',Rep X b (τ.set i (some (.d (.lst xs)))) σ ⟨h,z'⟩:=by
 obtain⟨v,h1,a,vs,rfl,h2,h3⟩:=r.val i _ hi
 obtain⟨o1,o2,o3⟩:=r.own i xs a hi h1
 have zz:AU z (upd z a (.lst vs)):=AY o3 _
 refine⟨upd z a (.lst vs),by simp[r.len],r.ext.freeze o1 o3 h2,fun j s' hj=>?_,fun j ys c hj hc=>?_,fun j k ys s' c hjk hj hk hs' hc=>?_,r.top,r.pin⟩
 ·rcases Ar hj with⟨rfl,rfl⟩|⟨hn,hj⟩
  ·have h3':=h3.mono zz
   exact⟨.ref a,h1,Is.lst Ac h3'.1 h3'.2⟩
  ·obtain⟨w,w1,w2⟩:=r.val j s' hj
   refine⟨w,w1,?_⟩
   cases s' with
   |d x=>exact Is.mono zz w2
   |l zs=>obtain⟨c,us,e1,q1,q2⟩:=w2;exact⟨c,us,e1,q1,q2.mono zz⟩
   |r zs=>obtain⟨c,us,e1,q1,q2⟩:=w2;exact⟨c,us,e1,q1,q2.mono zz⟩
 ·rcases Ar hj with⟨rfl,e1⟩|⟨hn,hj'⟩
  ·cases e1
  ·obtain⟨q1,q2,q3⟩:=r.own j ys c hj' hc
   refine⟨q1,q2,?_⟩
   show upd z a (.lst vs) c=none
   have hca:c≠a:=by
    rintro rfl
    exact r.sep j i ys (.l xs) c hn hj' hi rfl hc h1
   rw[Af hca]
   exact q3
 ·rcases Ar hj with⟨rfl,e1⟩|⟨hn,hj'⟩
  ·cases e1
  ·rcases Ar hk with⟨rfl,e4⟩|⟨hkn,hk'⟩
   ·subst e4;cases hs'
   ·exact r.sep j k ys s' c hjk hj' hk' hs' hc
theorem Rep.weak (r:Rep X b τ σ p)(hl:τ'.length=τ.length)(h:∀(i:Nat)(s:S),τ'[i]? = some (some s)→τ[i]? = some (some s)):Rep X b τ' σ p :=
 ⟨r.len.trans hl.symm,r.ext,fun i s h1=>r.val i s (h i s h1),fun i xs a h1 h2=>r.own i xs a (h _ _ h1) h2,fun i j xs s a hij h1 h2 h3 h4=>r.sep i j xs s a hij (h _ _ h1) (h _ _ h2) h3 h4,r.top,r.pin⟩
open Classical in
noncomputable def Eu (τ:Tau)(σ:St)(H:Hp):Hp:=fun b=>if ∃(i:Nat)(xs:List D),τ[i]? = some (some (S.l xs))∧σ[i]? = some (some (V.ref b)) then none else H b
theorem Qk {H:Hp}:AU (Eu τ σ H) H:=fun b o h=>by
 unfold Eu at h
 split at h
 ·cases h
 ·exact h
theorem DC {H:Hp}{c:Addr} (h:∀(i:Nat)(xs:List D),τ[i]? = some (some (S.l xs))→σ[i]?≠some (some (V.ref c))):Eu τ σ H c=H c:=by
 unfold Eu
 rw[if_neg]
 rintro⟨i,xs,h1,h2⟩
 exact h i xs h1 h2
theorem Rep.baseB (r:Rep X b τ σ p):AU b.h (Eu τ σ p.h):=fun c o h=>by
 rw[DC]
 ·exact r.ext.hh c o h
 ·intro i xs h1 h2
  have:=(r.own i xs c h1 h2).1
  rw[h] at this
  cases this
theorem Rep.inB (r:Rep X b τ σ p):Rep X ⟨Eu τ σ p.h,p.z⟩ τ σ p :=
 ⟨r.len,⟨Qk,AU.refl _,r.ext.sub,fun _ _ e=>.inl e⟩,r.val,fun i xs a h1 h2=>⟨by show Eu τ σ p.h a=none;unfold Eu;rw[if_pos ⟨i,xs,h1,h2⟩],(r.own i xs a h1 h2).2⟩,r.sep,fun h=>(r.top h).trans r.baseB,r.pin⟩
structure LeB (X:Cx)(b b':HZ):Prop where
 hh:AU b.h b'.h
 zz:AU b.z b'.z
 new:∀a o,b'.z a=some o→b.z a=some o∨b.h a=none
 top:X.lent=none→AU X.H₀ b.h
theorem LeB.ext (e:LeB X b b')(f:Ext b' p):Ext b p:=⟨e.hh.trans f.hh,e.zz.trans f.zz,f.sub,fun a o h=>by
 rcases f.new a o h with x|x
 ·exact e.new a o x
 ·exact .inr (e.hh.free x)⟩
theorem Rep.outB (e:LeB X b b')(r:Rep X b' τ σ p):Rep X b τ σ p :=
 ⟨r.len,e.ext r.ext,r.val,fun i xs a h1 h2=>⟨e.hh.free (r.own i xs a h1 h2).1,(r.own i xs a h1 h2).2⟩,r.sep,e.top,r.pin⟩
theorem Rep.leB (r:Rep X b τ σ p):LeB X b ⟨Eu τ σ p.h,p.z⟩:=⟨r.baseB,r.ext.zz,r.ext.new,r.top⟩
theorem Rep.leR (r:Rep X b τ σ p):LeB X b b:=⟨AU.refl _,AU.refl _,fun _ _ e=>.inl e,r.top⟩
end
abbrev TE3:=Tau→(S→Prop)→Prop
abbrev TT3:=Tau→(Bool→Prop)→Prop
abbrev TA3:=Tau→(List S→Prop)→Prop
structure Gr where
 nx:Tau→Prop
 rt:S→Prop
 bk:Tau→Prop:=fun _=>False
 ct:Tau→Prop:=fun _=>False
abbrev TS3:=Gr→Tau→Prop
def Args (K:PySem.W.Frag)(p:HZ)(vs:List V)(ss:List S):Prop :=
 vs.length=ss.length∧∀(i:Nat)(v:V)(s:S),vs[i]? = some v→ss[i]? = some s→IsS K p v s∧s.own=false
def FE (X:Cx)(t:TE3):TE:=fun σ H Q=>∃B z τ R,Rep X B τ σ ⟨H,z⟩∧t τ R∧∀s v q,Ext ⟨H,z⟩ q→IsS X.K q v s→Fr3 X.K ⟨H,z⟩ q v s→R s→Q v q.h
def FT (X:Cx)(t:TT3):TT:=fun σ H Q=>∃B z τ R,Rep X B τ σ ⟨H,z⟩∧t τ R∧∀c q,Ext ⟨H,z⟩ q→R c→Q c q.h
def FA (X:Cx)(t:TA3):TA:=fun σ H Q=>∃B z τ R,Rep X B τ σ ⟨H,z⟩∧t τ R∧∀ss vs q,Ext ⟨H,z⟩ q→Args X.K q vs ss→R ss→Q vs q.h
structure N6 (X:Cx)(B:HZ)(D3:Gr)(D2:GI):Prop where
 nx:∀τ σ p,Rep X B τ σ p→D3.nx τ→D2.nx σ p.h
 bk:∀τ σ p,Rep X B τ σ p→D3.bk τ→D2.bk σ p.h
 ct:∀τ σ p,Rep X B τ σ p→D3.ct τ→D2.ct σ p.h
 rt:∀s v q,Ext B q→IsS X.K q v s→Fr3 X.K B q v s→D3.rt s→D2.rt v q.h
def FS (X:Cx)(t:TS3):TS:=fun D2 σ H=>∃B z τ D3,Rep X B τ σ ⟨H,z⟩∧t D3 τ∧N6 X B D3 D2
structure PE3 (X:Cx)(e:Expr)(t:TE3):Prop where
 out:PE X e (FE X t)
structure PT3 (X:Cx)(e:Expr)(t:TT3):Prop where
 out:PT X e (FT X t)
structure PW3 (X:Cx)(e:Expr)(t:TT3):Prop where
 out:PW X e (FT X t)
structure PA3 (X:Cx)(es:List Expr)(t:TA3):Prop where
 out:PA X es (FA X t)
structure PS3 (X:Cx)(st:Stmt)(t:TS3):Prop where
 out:PS X st (FS X t)
structure C4 (X:Cx)(st:List Stmt)(t:TS3):Prop where
 out:PSs X st (FS X t)
theorem PW3.pt {X:Cx}{e:Expr}{t:TT3} (h:PW3 X e t):PT3 X e t:=⟨h.out _⟩
section
variable {X:Cx}{e a b:Expr}{ta tb:TE3}{pos:Pos}
theorem Al {t t':TE} (h:PE X e t) (f:∀σ H Q,t' σ H Q→t σ H Q):PE X e t':=fun pins s σ H Q I q=>h pins s σ H Q I (f σ H Q q)
theorem He {t t':TT} (h:PT X e t) (f:∀σ H Q,t' σ H Q→t σ H Q):PT X e t':=fun pins s σ H Q I q=>h pins s σ H Q I (f σ H Q q)
theorem NH {t t':TT} (h:PW X e t) (f:∀σ H Q,t' σ H Q→t σ H Q):PW X e t':=fun wh pins s σ H Q I q=>h wh pins s σ H Q I (f σ H Q q)
theorem NJ {es:List Expr}{t t':TA} (h:PA X es t) (f:∀σ H Q,t' σ H Q→t σ H Q):PA X es t':=fun pos pins s σ H Q I q=>h pos pins s σ H Q I (f σ H Q q)
theorem AF {st:Stmt}{t t':TS} (h:PS X st t) (f:∀D σ H,t' D σ H→t D σ H):PS X st t':=fun pins s σ H D I q=>h pins s σ H D I (f D σ H q)
theorem Bw {st:List Stmt}{t t':TS} (h:PSs X st t) (f:∀D σ H,t' D σ H→t D σ H):PSs X st t':=fun pins s σ H D I q=>h pins s σ H D I (f D σ H q)
def TK (i:Nat):TE3:=fun τ R=>match τ[i]? with
 |some (some s)=>R s.share
 |_=>False
def vC (d:D):TE3:=fun _ R=>R (.d d)
theorem Nj {K:PySem.W.Frag}{p q:HZ}{v:V}{s:S}:Fr3 K p q v s.share:=by
 intro xs a h
 cases s<;>cases h
theorem Bp {K:PySem.W.Frag}{p q:HZ}{v:V}{d:D}:Fr3 K p q v (.d d):=by
 intro xs a h
 cases h
theorem Vz {i:Nat}{x:Str} (h:PE X (.Name x pos) (Gw i)):PE3 X (.Name x pos) (TK i):=by
 refine⟨?_⟩
 refine Al h fun σ H Q hh9=>?_
 obtain⟨B,z,τ,R,r,ht,q⟩:=hh9
 unfold TK at ht
 split at ht
 ·rename_i s hs
  obtain⟨v,h1,h2⟩:=r.val i s hs
  exact⟨v,h1,q _ v ⟨H,z⟩ (Ext.refl r.ext.sub) h2.share Nj ht⟩
 ·exact ht.elim
theorem EF {v:V}{d:D} (h:PE X e (tC v)) (hd:∀K H,Is K H v d):PE3 X e (vC d):=⟨Al h fun σ H Q hh=>by obtain⟨B,z,τ,R,r,ht,q⟩:=hh;exact q (.d d) v ⟨H,z⟩ (Ext.refl r.ext.sub) (hd _ _) Bp ht⟩
theorem Ag {i j}:PE3 X (.Constant (.int i) j pos) (vC (.int i)):=EF Rn fun _ _=>.int i
theorem N1 {i j}:PE3 X (.Constant (.bool i) j pos) (vC (.bl i)):=EF Jy fun _ _=>.bl i
theorem V2 {j}:PE3 X (.Constant .none j pos) (vC .non):=EF RI fun _ _=>.non
theorem Ak {x j}:PE3 X (.Constant (.str x) j pos) (vC (.str x)):=EF RP fun _ _=>.str x
abbrev R3:=D→D→(D→Prop)→Prop
def lft (K:PySem.W.Frag)(r3:R3):R2:=fun x y H Q=>∃z dx dy R,AU z H∧Is K z x dx∧Is K z y dy∧r3 dx dy R∧∀d v q,Ext ⟨H,z⟩ q→Is K q.z v d→R d→Q v q.h
def Dx (X:Cx)(f:Value→Value→Sem Value)(r3:R3):Prop:=OpR X f (lft X.K r3)
theorem Bu {f:Value→Value→Sem Value}{r r':R2} (h:OpR X f r) (i:∀x y H Q,r' x y H Q→r x y H Q):OpR X f r':=fun pins s σ H x y v u Q I rx ry q=>h pins s σ H x y v u Q I rx ry (i x y H Q q)
def oI (C:Int→Int→Prop)(g:Int→Int→Int):R3:=fun dx dy R=>match dx,dy with
 |.int i,.int j=>C i j∧R (.int (g i j))
 |_,_=>False
def oI0 (g:Int→Int→Int):R3:=fun dx dy R=>match dx,dy with
 |.int i,.int j=>R (.int (g i j))
 |_,_=>False
def oB0 (g:Int→Int→Bool):R3:=fun dx dy R=>match dx,dy with
 |.int i,.int j=>R (.bl (g i j))
 |_,_=>False
theorem Mi {f:Value→Value→Sem Value}{C:Int→Int→Prop}{g:Int→Int→Int} (h:OpR X f (rI C fun i j=>.int (g i j))):Dx X f (oI C g) :=
 Bu h fun x y H Q hh=>by
  obtain⟨z,dx,dy,R,hz,hx,hy,h3,q⟩:=hh
  unfold oI at h3
  split at h3
  ·rename_i i j
   exact⟨i,j,hx.int_inv,hy.int_inv,h3.1,q _ _ ⟨H,z⟩ (Ext.refl hz) (.int _) h3.2⟩
  ·exact h3.elim
theorem Ox {f:Value→Value→Sem Value}{g:Int→Int→Int} (h:OpR X f (rI0 fun i j=>.int (g i j))):Dx X f (oI0 g) :=
 Bu h fun x y H Q hh=>by
  obtain⟨z,dx,dy,R,hz,hx,hy,h3,q⟩:=hh
  unfold oI0 at h3
  split at h3
  ·rename_i i j
   exact⟨i,j,hx.int_inv,hy.int_inv,q _ _ ⟨H,z⟩ (Ext.refl hz) (.int _) h3⟩
  ·exact h3.elim
theorem Nf {f:Value→Value→Sem Value}{g:Int→Int→Bool} (h:OpR X f (rI0 fun i j=>.bl (g i j))):Dx X f (oB0 g) :=
 Bu h fun x y H Q hh=>by
  obtain⟨z,dx,dy,R,hz,hx,hy,h3,q⟩:=hh
  unfold oB0 at h3
  split at h3
  ·rename_i i j
   exact⟨i,j,hx.int_inv,hy.int_inv,q _ _ ⟨H,z⟩ (Ext.refl hz) (.bl _) h3⟩
  ·exact h3.elim
theorem PR:OpR X (binaryOp .Mult) (rI IntMulOk fun i j=>.int (i*j)):=opI fun _ _ _ _ _ _ _ hc q=>mul_int q hc
def CDv (i j:Int):Prop:=j≠0∧Builtin.divisionGoesByPylong i j=false
theorem ND:OpR X (binaryOp .FloorDiv) (rI CDv fun i j=>.int (i.fdiv j)):=opI fun _ _ _ _ _ _ _ hc q=>floordiv_int hc.1 q (.inl hc.2)
def Ze:R3:=fun dx dy R=>match dx,dy with
 |.int i,.int j=>R (.int (i+j))
 |_,_=>False
theorem B8:Dx X (binaryOp .Add) Ze:=Ox Oo
def XZ:R3:=fun dx dy R=>match dx,dy with
 |.int i,.int j=>R (.int (i-j))
 |_,_=>False
theorem BK:Dx X (binaryOp .Sub) XZ:=Ox RN
def Zu:R3:=fun dx dy R=>match dx,dy with
 |.int i,.int j=>IntMulOk i j∧R (.int (i*j))
 |_,_=>False
theorem Np:Dx X (binaryOp .Mult) Zu:=Mi PR
def Vh:R3:=fun dx dy R=>match dx,dy with
 |.int i,.int j=>CDv i j∧R (.int (i.fdiv j))
 |_,_=>False
theorem Bn:Dx X (binaryOp .FloorDiv) Vh:=Mi ND
def Y5:R3:=fun dx dy R=>match dx,dy with
 |.int i,.int j=>j≠0∧R (.int (i.fmod j))
 |_,_=>False
theorem BM:Dx X (binaryOp .Mod) Y5:=Mi PX
def Zp:R3:=fun dx dy R=>match dx,dy with
 |.int i,.int j=>TU i j∧R (.int (i^j.toNat))
 |_,_=>False
theorem YM:Dx X (binaryOp .Pow) Zp:=Mi Sg
def oLt:R3:=fun dx dy R=>match dx,dy with
 |.int i,.int j=>R (.bl (decide (i<j)))
 |_,_=>False
theorem Ye:Dx X (compareOp .Lt) oLt:=Nf V7
def oLe:R3:=fun dx dy R=>match dx,dy with
 |.int i,.int j=>R (.bl (decide (i≤j)))
 |_,_=>False
theorem ZK:Dx X (compareOp .LtE) oLe:=Nf V6
def oGt:R3:=fun dx dy R=>match dx,dy with
 |.int i,.int j=>R (.bl (decide (j<i)))
 |_,_=>False
theorem Ta:Dx X (compareOp .Gt) oGt:=Nf Vp
def oGe:R3:=fun dx dy R=>match dx,dy with
 |.int i,.int j=>R (.bl (decide (j≤i)))
 |_,_=>False
theorem ZS:Dx X (compareOp .GtE) oGe:=Nf T6
def oEq:R3:=fun dx dy R=>match dx,dy with
 |.int i,.int j=>R (.bl (decide (i=j)))
 |.bl i,.bl j=>R (.bl (decide (i=j)))
 |.str i,.str j=>R (.bl (decide (i=j)))
 |_,_=>False
def oNe:R3:=fun dx dy R=>match dx,dy with
 |.int i,.int j=>R (.bl (!decide (i=j)))
 |.bl i,.bl j=>R (.bl (!decide (i=j)))
 |.str i,.str j=>R (.bl (!decide (i=j)))
 |_,_=>False
theorem JV {α β:Type}{i j:α}{f:α→β} [DecidableEq α] [DecidableEq β] (h:∀a b,f a=f b→a=b):decide (f i=f j)=decide (i=j):=by
 by_cases e:i=j
 ·rw[decide_eq_true e,decide_eq_true (by rw[e])]
 ·rw[decide_eq_false e,decide_eq_false fun z=>e (h _ _ z)]
theorem Dl:Dx X (compareOp .Eq) oEq :=
 Bu UO fun x y H Q hh=>by
  obtain⟨z,dx,dy,R,hz,hx,hy,h3,q⟩:=hh
  unfold oEq at h3
  split at h3
  ·rename_i i j
   cases hx.int_inv
   cases hy.int_inv
   exact⟨rfl,by rw[JV (f:=V.int) (fun _ _ z=>by cases z;rfl)];exact q _ _ ⟨H,z⟩ (Ext.refl hz) (.bl _) h3⟩
  ·rename_i i j
   cases hx.bl_inv
   cases hy.bl_inv
   exact⟨rfl,by rw[JV (f:=V.bl) (fun _ _ z=>by cases z;rfl)];exact q _ _ ⟨H,z⟩ (Ext.refl hz) (.bl _) h3⟩
  ·rename_i i j
   cases hx.str_inv
   cases hy.str_inv
   exact⟨rfl,by rw[JV (f:=V.str) (fun _ _ z=>by cases z;rfl)];exact q _ _ ⟨H,z⟩ (Ext.refl hz) (.bl _) h3⟩
  ·exact h3.elim
theorem Zy:Dx X (compareOp .NotEq) oNe :=
 Bu Ue fun x y H Q hh=>by
  obtain⟨z,dx,dy,R,hz,hx,hy,h3,q⟩:=hh
  unfold oNe at h3
  split at h3
  ·rename_i i j
   cases hx.int_inv
   cases hy.int_inv
   exact⟨rfl,by rw[JV (f:=V.int) (fun _ _ z=>by cases z;rfl)];exact q _ _ ⟨H,z⟩ (Ext.refl hz) (.bl _) h3⟩
  ·rename_i i j
   cases hx.bl_inv
   cases hy.bl_inv
   exact⟨rfl,by rw[JV (f:=V.bl) (fun _ _ z=>by cases z;rfl)];exact q _ _ ⟨H,z⟩ (Ext.refl hz) (.bl _) h3⟩
  ·rename_i i j
   cases hx.str_inv
   cases hy.str_inv
   exact⟨rfl,by rw[JV (f:=V.str) (fun _ _ z=>by cases z;rfl)];exact q _ _ ⟨H,z⟩ (Ext.refl hz) (.bl _) h3⟩
  ·exact h3.elim
def dd (x:S)(k:D→Prop):Prop:=match x with
 |.d d=>k d
 |_=>False
def vOp (r3:R3)(ta tb:TE3):TE3:=fun τ R=>ta τ fun x=>tb τ fun y=>dd x fun dx=>dd y fun dy=>r3 dx dy fun d=>R (.d d)
theorem Cm {x:S}{k:D→Prop} (h:dd x k):∃d,x=.d d∧k d:=by
 cases x with
 |d d=>exact⟨d,rfl,h⟩
 |l _=>exact h.elim
 |r _=>exact h.elim
theorem two {r3:R3}{σ:St}{H:Hp}{Q:VK} (h:FE X (vOp r3 ta tb) σ H Q):tOp (lft X.K r3) (FE X ta) (FE X tb) σ H Q:=by
 obtain⟨B,z,τ,R,r,ht,q⟩:=h
 refine⟨B,_,τ,_,r,ht,fun x v H1 e1 i1 f1 h1=>?_⟩
 refine⟨B,_,τ,_,r.mono e1,h1,fun y u H2 e2 i2 f2 h2=>?_⟩
 obtain⟨dx,rfl,h4⟩:=Cm h2
 obtain⟨dy,rfl,h5⟩:=Cm h4
 exact⟨H2.z,dx,dy,_,e2.sub,Is.mono e2.zz i1,i2,h5,fun d w H3 e3 i3 h3=>q (.d d) w H3 (e1.trans (e2.trans e3)) i3 Bp h3⟩
theorem Aw {op:Operator}{r3:R3} (ho:Dx X (binaryOp op) r3) (ha:PE3 X a ta) (hb:PE3 X b tb):PE3 X (.BinOp a op b pos) (vOp r3 ta tb):=⟨Al (Pa ho ha.out hb.out) fun _ _ _ h=>two h⟩
theorem OP {op:CmpOp}{r3:R3} (ho:Dx X (compareOp op) r3) (ha:PE3 X a ta) (hb:PE3 X b tb) (hm:behindInMarks op b=false):PE3 X (.Compare a [op] [b] pos) (vOp r3 ta tb):=⟨Al (Ip ho ha.out hb.out hm) fun _ _ _ h=>two h⟩
def bb (x:S)(k:Bool→Prop):Prop:=match x with
 |.d (.bl c)=>k c
 |_=>False
theorem Er {x:S}{k:Bool→Prop} (h:bb x k):∃c,x=.d (.bl c)∧k c:=by
 unfold bb at h
 split at h
 ·exact⟨_,rfl,h⟩
 ·exact h.elim
def Lw (t:TE3):TT3:=fun τ R=>t τ fun x=>bb x R
theorem DM {op:CmpOp}{r3:R3} (ho:Dx X (compareOp op) r3) (ha:PE3 X a ta) (hb:PE3 X b tb) (hm:behindInMarks op b=false):PT3 X (.Compare a [op] [b] pos) (Lw (vOp r3 ta tb)):=⟨He (HH ho ha.out hb.out hm) fun σ H Q hh=>by obtain⟨B,z,τ,R,r,ht,q⟩:=hh;exact two ⟨B,_,τ,_,r,ht,fun s v H' e i f h=>by
 obtain⟨c,rfl,h⟩:=Er h
 cases Is.bl_inv i
 exact⟨c,rfl,q c H' e h⟩⟩⟩
theorem A3 {t:TE3} (h:PE3 X e t) (he:∀whole,isTrue e X.env whole=(do let v ←whole;standAt e.pos;holding [v] (truthy v)):=by intro _;rfl):PT3 X e (Lw t):=⟨He (RU h.out he) fun σ H Q hh=>by obtain⟨B,z,τ,R,r,ht,q⟩:=hh;exact⟨B,_,τ,_,r,ht,fun s v H' e i f hz=>by
 obtain⟨c,rfl,hz⟩:=Er hz
 cases Is.bl_inv i
 exact⟨c,rfl,q c H' e hz⟩⟩⟩
def Yg (ta:TE3):TE3:=fun τ R=>ta τ fun x=>match x with
 |.d (.int i)=>R (.d (.int (-i)))
 |_=>False
theorem EB (ha:PE3 X a ta):PE3 X (.UnaryOp .USub a pos) (Yg ta):=⟨Al (VO Ry ha.out) fun σ H Q hh=>by obtain⟨B,z,τ,R,r,ht,q⟩:=hh;exact⟨B,_,τ,_,r,ht,fun s v H' e i f h=>by
 split at h
 ·rename_i i'
  exact⟨i',Is.int_inv i,q (.d _) _ H' e (Is.int _) Bp h⟩
 ·exact h.elim⟩⟩
variable {tA tB':TT3}{Cp:List Expr}
def Zr (t u:TT3):TT3:=fun τ R=>t τ fun c=>if c=true then u τ R else R false
def wOr (t u:TT3):TT3:=fun τ R=>t τ fun c=>if c=true then R true else u τ R
def Za (t:TT3):TT3:=fun τ R=>t τ fun c=>R (!c)
theorem Ko (ha:PT3 X a tA):PW3 X (.BoolOp .And [a] pos) tA:=⟨PD ha.out⟩
theorem C6 (ha:PT3 X a tA):PW3 X (.BoolOp .Or [a] pos) tA:=⟨Sx ha.out⟩
theorem OE (ha:PT3 X a tA)(hb:PW3 X (.BoolOp .And (b::Cp) pos) tB'):PW3 X (.BoolOp .And (a::b::Cp) pos) (Zr tA tB'):=⟨NH (Ro ha.out hb.out) fun σ H Q hh=>by obtain⟨B,z,τ,R,r,ht,q⟩:=hh;exact⟨B,_,τ,_,r,ht,fun c H1 e h=>by
 cases c with
 |true=>rw[if_pos rfl] at h ⊢;exact⟨B,_,τ,R,r.mono e,h,fun d H2 e2 h2=>q d H2 (e.trans e2) h2⟩
 |false=>rw[if_neg qAe] at h ⊢;exact q _ _ e h⟩⟩
theorem C1 (ha:PT3 X a tA)(hb:PW3 X (.BoolOp .Or (b::Cp) pos) tB'):PW3 X (.BoolOp .Or (a::b::Cp) pos) (wOr tA tB'):=⟨NH (V9 ha.out hb.out) fun σ H Q hh=>by obtain⟨B,z,τ,R,r,ht,q⟩:=hh;exact⟨B,_,τ,_,r,ht,fun c H1 e h=>by
 cases c with
 |false=>rw[if_neg qAe] at h ⊢;exact⟨B,_,τ,R,r.mono e,h,fun d H2 e2 h2=>q d H2 (e.trans e2) h2⟩
 |true=>rw[if_pos rfl] at h ⊢;exact q _ _ e h⟩⟩
theorem w_not (ha:PT3 X a tA):PT3 X (.UnaryOp .Not a pos) (Za tA):=⟨He (Sm ha.out) fun σ H Q hh=>by obtain⟨B,z,τ,R,r,ht,q⟩:=hh;exact⟨B,_,τ,_,r,ht,fun c H1 e h=>q _ _ e h⟩⟩
def X9 (ta tb:TE3):TE3:=fun τ R=>ta τ fun x=>bb x fun c=>if c=true then tb τ R else R (.d (.bl false))
def vOr (ta tb:TE3):TE3:=fun τ R=>ta τ fun x=>bb x fun c=>if c=true then R (.d (.bl true)) else tb τ R
def Y7 (ta:TE3):TE3:=fun τ R=>ta τ fun x=>bb x fun c=>R (.d (.bl (!c)))
theorem QV {op}{t:TE3} (h:PE3 X a t):PE3 X (.BoolOp op [a] pos) t:=⟨QY h.out⟩
theorem SO (ha:PE3 X a ta)(hb:PE3 X (.BoolOp .And (b::Cp) pos) tb):PE3 X (.BoolOp .And (a::b::Cp) pos) (X9 ta tb):=⟨Al (R7 ha.out hb.out) fun σ H Q hh=>by obtain⟨B,z,τ,R,r,ht,q⟩:=hh;exact⟨B,_,τ,_,r,ht,fun s v H1 e i f h=>by
 obtain⟨c,rfl,h'⟩:=Er h
 cases Is.bl_inv i
 refine⟨c,rfl,?_⟩
 cases c with
 |true=>rw[if_pos rfl] at h' ⊢;exact⟨B,_,τ,R,r.mono e,h',fun s2 v2 H2 e2 i2 f2 h2=>q _ _ _ (e.trans e2) i2 (CA e f2) h2⟩
 |false=>rw[if_neg qAe] at h' ⊢;exact q (.d _) _ _ e (Is.bl _) Bp h'⟩⟩
theorem ZN (ha:PE3 X a ta)(hb:PE3 X (.BoolOp .Or (b::Cp) pos) tb):PE3 X (.BoolOp .Or (a::b::Cp) pos) (vOr ta tb):=⟨Al (VN ha.out hb.out) fun σ H Q hh=>by obtain⟨B,z,τ,R,r,ht,q⟩:=hh;exact⟨B,_,τ,_,r,ht,fun s v H1 e i f h=>by
 obtain⟨c,rfl,h'⟩:=Er h
 cases Is.bl_inv i
 refine⟨c,rfl,?_⟩
 cases c with
 |false=>rw[if_neg qAe] at h' ⊢;exact⟨B,_,τ,R,r.mono e,h',fun s2 v2 H2 e2 i2 f2 h2=>q _ _ _ (e.trans e2) i2 (CA e f2) h2⟩
 |true=>rw[if_pos rfl] at h' ⊢;exact q (.d _) _ _ e (Is.bl _) Bp h'⟩⟩
theorem ZE (ha:PE3 X a ta):PE3 X (.UnaryOp .Not a pos) (Y7 ta):=⟨Al (Q4 ha.out) fun σ H Q hh=>by obtain⟨B,z,τ,R,r,ht,q⟩:=hh;exact⟨B,_,τ,_,r,ht,fun s v H1 e i f h=>by
 obtain⟨c,rfl,h'⟩:=Er h
 cases Is.bl_inv i
 exact⟨c,rfl,q (.d _) _ _ e (Is.bl _) Bp h'⟩⟩⟩
def vIf (t:TT3)(ta tb:TE3):TE3:=fun τ R=>t τ fun c=>if c=true then ta τ R else tb τ R
theorem VJ {c:Expr} (hc:PT3 X c tA) (ha:PE3 X a ta) (hb:PE3 X b tb):PE3 X (.IfExp c a b pos) (vIf tA ta tb):=⟨Al (M5 hc.out ha.out hb.out) fun σ H Q hh=>by obtain⟨B,z,τ,R,r,ht,q⟩:=hh;exact⟨B,_,τ,_,r,ht,fun d H1 e h=>by
 cases d with
 |true=>rw[if_pos rfl] at h ⊢;exact⟨B,_,τ,R,r.mono e,h,fun s2 v2 H2 e2 i2 f2 h2=>q _ _ _ (e.trans e2) i2 (CA e f2) h2⟩
 |false=>rw[if_neg qAe] at h ⊢;exact⟨B,_,τ,R,r.mono e,h,fun s2 v2 H2 e2 i2 f2 h2=>q _ _ _ (e.trans e2) i2 (CA e f2) h2⟩⟩⟩
def items:S→Option (List D)
 |.d (.tup xs)=>some xs
 |.d (.lst xs)=>some xs
 |.l xs=>some xs
 |.r xs=>some xs
 |_=>none
def vIx (ta tb:TE3):TE3:=fun τ R=>ta τ fun x=>tb τ fun y=>match items x,y with
 |some xs,.d (.int i)=>match atI xs i with
  |some d=>R (.d d)
  |none=>False
 |_,_=>False
theorem Gq {K:PySem.W.Frag}{H:Hp}{vs:List V}{xs:List D}{i:Int}{d:D} (h:Iss K H vs xs) (e:atI xs i=some d):∃v,atI vs i=some v∧Is K H v d:=by
 unfold atI at e ⊢
 rw[h.1]
 cases q:ixN xs.length i with
 |none=>rw[q] at e;cases e
 |some j =>
  rw[q] at e
  have e':xs[j]? = some d:=e
  have hj:=(qAj.mp e').1
  have hl:j<vs.length:=by rw[h.1];exact hj
  have hv:vs[j]? = some vs[j]:=qAc hl
  exact⟨vs[j],hv,h.2 j _ _ hv e'⟩
theorem Ma (ha:PE3 X a ta)(hb:PE3 X b tb)(hs:Ic b:=by exact fun _ _=>rfl):PE3 X (.Subscript a b pos) (vIx ta tb):=⟨Al (QL (Kr.or Ov) ha.out hb.out hs) fun σ H Q hh=>by
 obtain⟨B,z,τ,R,r,ht,q⟩:=hh
 refine⟨B,_,τ,_,r,ht,fun x v H1 e1 i1 f1 h1=>?_⟩
 refine⟨B,_,τ,_,r.mono e1,h1,fun y u H2 e2 i2 f2 h2=>?_⟩
 split at h2
 ·rename_i xs i hx
  split at h2
  ·rename_i d hd
   cases Is.int_inv i2
   have i1':=IsS.mono e2 i1
   cases x with
   |d z =>
    cases z with
    |tup zs =>
     cases hx
     obtain⟨p,vs,rfl,h3,h4⟩:=Is.tup_inv i1'
     obtain⟨w,hw,iw⟩:=Gq h4 hd
     exact .inr ⟨p,vs,i,w,rfl,rfl,SqT.same e2.sub h3,hw,q (.d _) _ _ (e1.trans e2) iw Bp h2⟩
    |lst zs =>
     cases hx
     obtain⟨p,vs,rfl,h3,h4⟩:=Is.lst_inv i1'
     obtain⟨w,hw,iw⟩:=Gq h4 hd
     exact .inl ⟨p,vs,i,w,rfl,rfl,e2.sub.seq h3,hw,q (.d _) _ _ (e1.trans e2) iw Bp h2⟩
    |_=>cases hx
   |l zs =>
    cases hx
    obtain⟨p,vs,rfl,h3,h4⟩:=i1'
    obtain⟨w,hw,iw⟩:=Gq h4 hd
    exact .inl ⟨p,vs,i,w,rfl,rfl,SqL.of h3,hw,q (.d _) _ _ (e1.trans e2) iw Bp h2⟩
   |r zs =>
    cases hx
    obtain⟨p,vs,rfl,h3,h4⟩:=i1'
    obtain⟨w,hw,iw⟩:=Gq h4 hd
    exact .inl ⟨p,vs,i,w,rfl,rfl,h3,hw,q (.d _) _ _ (e1.trans e2) iw Bp h2⟩
  ·exact h2.elim
 ·exact h2.elim⟩
variable {es:List Expr}{tr:TA3}{te:TE3}
def Tp:TA3:=fun _ R=>R []
def S.arg:S→S
 |.l xs=>.d (.lst xs)
 |s=>s
def Kl (ta:TE3)(tr:TA3):TA3:=fun τ R=>ta τ fun x=>tr τ fun xs=>R (x.arg::xs)
theorem Py:PA3 X [] Tp:=⟨NJ A5 fun σ H Q hh=>by obtain⟨B,z,τ,R,r,ht,q⟩:=hh;exact q [] [] ⟨H,z⟩ (Ext.refl r.ext.sub) ⟨rfl,fun i v s h=>by simp at h⟩ ht⟩
theorem Pt (s:S):s.arg.own=false:=by cases s<;>rfl
theorem Dc {K:PySem.W.Frag}{p q:HZ}{v:V}{s:S} (e:Ext p q) (i:IsS K q v s) (f:Fr3 K p q v s):∃z',Ext p ⟨q.h,z'⟩∧IsS K ⟨q.h,z'⟩ v s.arg:=by
 cases s with
 |d x=>exact⟨q.z,e,i⟩
 |r xs=>exact⟨q.z,e,i⟩
 |l xs =>
  obtain⟨a,vs,rfl,h1,h2⟩:=i
  obtain⟨f1,f2,f3⟩:=f xs a rfl rfl
  have h3:=h2.mono (AY f3 (.lst vs))
  exact⟨upd q.z a (.lst vs),e.freeze f1 f3 h1,Is.lst Ac h3.1 h3.2⟩
theorem Ap (ha:PE3 X e te)(hr:PA3 X es tr)(hs:starEach (e::es) X.env=(false,eval e X.env)::starEach es X.env:=by exact AI rfl):PA3 X (e::es) (Kl te tr) :=
 ⟨NJ (Az ha.out hr.out hs) fun σ H Q hh=>by
  obtain⟨B,z,τ,R,r,ht,q⟩:=hh
  refine⟨B,_,τ,_,r,ht,fun x v H1 e1 i1 f1 h1=>?_⟩
  obtain⟨z1,e1',i1'⟩:=Dc e1 i1 f1
  refine⟨B,z1,τ,_,r.mono e1',h1,fun ss vs H2 e2 i2 h2=>?_⟩
  refine q _ _ _ (e1'.trans e2) ⟨by simp[i2.1],fun i w s hw hs=>?_⟩ h2
  cases i with
  |zero =>
   simp at hw hs
   subst hw;subst hs
   exact⟨IsS.mono e2 i1',Pt x⟩
  |succ i=>exact i2.2 i w s (by simpa using hw) (by simpa using hs)⟩
def Qw:List S→Option (List D)
 |[]=>some []
 |.d x::r=>(Qw r).map (x :: ·)
 |_::_=>none
theorem FV:∀{ss:List S}{ds:List D},Qw ss=some ds→ss=ds.map S.d
 |[],ds,h=>by cases h;rfl
 |.d x::r,ds,h=>by
  unfold Qw at h
  cases q:Qw r with
  |none=>rw[q] at h;cases h
  |some ys =>
   rw[q] at h
   cases h
   rw[FV q]
   rfl
 |.l _::_,_,h=>by cases h
 |.r _::_,_,h=>by cases h
theorem IM {K:PySem.W.Frag}{p:HZ}{vs:List V}{ds:List D} (h:Args K p vs (ds.map S.d)):Iss K p.z vs ds:=by
 refine⟨by simpa using h.1,fun i v x h1 h2=>?_⟩
 exact(h.2 i v (.d x) h1 (by rw[qAl,h2];rfl)).1
def YN (t:TA3):TE3:=fun τ R=>t τ fun ss=>match Qw ss with
 |some ds=>ds.length≤1000∧R (.d (.tup ds))
 |none=>False
theorem Ou {n:Nat} (h:n≤1000):n≤sizeLine:=qBi (LC h)
theorem QI {x1} (h:PA3 X es tr):PE3 X (.Tuple es x1 pos) (YN tr) :=
 ⟨Al (Q8 h.out) fun σ H Q hh=>by obtain⟨B,z,τ,R,r,ht,q⟩:=hh;exact⟨B,_,τ,_,r,ht,fun ss vs H1 e1 i1 h1=>by
  try dsimp only at h1
  split at h1
  ·rename_i ds hd
   rw[FV hd] at i1
   have j:=IM i1
   refine⟨by rw[j.1];exact Ou h1.1,fun p hp=>?_⟩
   have el:=Ext.lay (o:=.tup vs) e1.sub hp
   have j':=j.mono (AY (e1.sub.free hp) (.tup vs))
   exact q (.d _) _ _ (e1.trans el) (Is.tup (SqT.of Ac) j'.1 j'.2) Bp h1.2
  ·exact h1.elim⟩⟩
theorem PF {t:TA} (h:PA X es t):PE X (.List es pos) (fun σ H Q=>t σ H fun xs H1=>xs.length≤sizeLine∧∀p,H1 p=none→X.K.lookup p=none→Q (.ref p) (upd H1 p (.lst xs))):=by
 intro pins s σ H Q I hq
 refine wpAny_List_spliced (thn (h pos pins s σ H _ I hq) fun us s1 ⟨xs,H1,I1,r,z,q⟩=>⟨by rw[←r.length];exact z,?_⟩)
 have hf:H1 s1.heap.objs.size=none:=I1.hok.fresh (qAg _)
 have hk:X.K.lookup s1.heap.objs.size=none:=by
  cases e:X.K.lookup s1.heap.objs.size with
  |none=>rfl
  |some o=>exact absurd (qAh (I1.kIn _ _ e)) (qA3 _)
 refine⟨.ref s1.heap.objs.size,upd H1 s1.heap.objs.size (.lst xs),I1.laid (t':=s1.toks) (fun b u e=>qAb _ e) (qAg _) ?_,rfl,q _ hf hk⟩
 exact⟨z,us,0,r,qAm _ rfl⟩
def Yy (t:TA3):TE3:=fun τ R=>t τ fun ss=>match Qw ss with
 |some ds=>ds.length≤1000∧R (.l ds)
 |none=>False
theorem F6 (h:PA3 X es tr):PE3 X (.List es pos) (Yy tr) :=
 ⟨Al (PF h.out) fun σ H Q hh=>by obtain⟨B,z,τ,R,r,ht,q⟩:=hh;exact⟨B,_,τ,_,r,ht,fun ss vs H1 e1 i1 h1=>by
  try dsimp only at h1
  split at h1
  ·rename_i ds hd
   rw[FV hd] at i1
   have j:=IM i1
   refine⟨by rw[j.1];exact Ou h1.1,fun p hp hk=>q (.l ds) _ ⟨_,H1.z⟩ (e1.trans (Ext.own e1.sub hp _)) ⟨p,vs,rfl,Ac,j⟩ (fun xs a _ h2=>?_) h1.2⟩
   cases h2
   exact⟨e1.hh.free hp,hk,e1.sub.free hp⟩
  ·exact h1.elim⟩⟩
def vCB (r:List S→(S→Prop)→Prop)(t:TA3):TE3:=fun τ R=>t τ fun ss=>r ss R
def Co (X:Cx)(f:Value)(r3:List S→(S→Prop)→Prop):Prop :=
 A7 X f (fun xs H Q=>∃z ss R,AU z H∧Args X.K ⟨H,z⟩ xs ss∧r3 ss R∧∀s v q,Ext ⟨H,z⟩ q→IsS X.K q v s→Fr3 X.K ⟨H,z⟩ q v s→R s→Q v q.h)
theorem Bm {f:Value}{r r':List V→Hp→VK→Prop} (h:A7 X f r) (i:∀xs H Q,r' xs H Q→r xs H Q):A7 X f r':=fun pins s σ H xs us Q I rs q=>h pins s σ H xs us Q I rs (i xs H Q q)
theorem CP {x:Str}{p:Pos}{id:String}{r:List S→(S→Prop)→Prop} (hc:Co X (.builtin id) r) (hg:Gl X x) (hm:X.mg x=none) (hv:bootBuiltins x=some (.builtin id)) (ha:PA3 X (e::es) tr) (hn:x≠"__name__":=by decide)
 (hdb:(x==("__debug__":Str))=false:=by decide) (he:starEach (e::es) X.env=(false,eval e X.env)::starEach es X.env:=by exact AI rfl) (hpl:(backTo pos (starEach es X.env)).any (·.1)=false:=by exact A1 rfl) :
 PE3 X (.Call (.Name x p) (e::es) [] pos) (vCB r tr):=⟨Al (Cj hc hg hm hv ha.out hn hdb he hpl) fun σ H Q hh=>by obtain⟨B,z,τ,R,r,ht,q⟩:=hh;exact⟨B,_,τ,_,r,ht,fun ss vs H1 e1 i1 h1=>⟨H1.z,ss,R,e1.sub,i1,h1,fun s v H2 e2 i2 f2 h2=>q s v H2 (e1.trans e2) i2 (CA e1 f2) h2⟩⟩⟩
theorem XE {α:Type}{l:List α} (h:l.length=1):∃a,l=[a]:=by
 cases l with
 |nil=>cases h
 |cons a t=>exact⟨a,by rw[List.length_eq_zero_iff.mp (Nat.succ.inj h)]⟩
theorem Ww {α:Type}{l:List α} (h:l.length=2):∃a b,l=[a,b]:=by
 cases l with
 |nil=>cases h
 |cons a t =>
  obtain⟨b,e⟩:=XE (Nat.succ.inj h)
  exact⟨a,b,by rw[e]⟩
theorem Y8 {α:Type}{l:List α} (h:l.length=3):∃a b c,l=[a,b,c]:=by
 cases l with
 |nil=>cases h
 |cons a t =>
  obtain⟨b,c,e⟩:=Ww (Nat.succ.inj h)
  exact⟨a,b,c,by rw[e]⟩
theorem Ef {K:PySem.W.Frag}{H:HZ}{vs:List V}{s:S} (h:Args K H vs [s]):∃v,vs=[v]∧IsS K H v s:=by
 obtain⟨hl,hv⟩:=h
 obtain⟨v,rfl⟩:=XE hl
 exact⟨v,rfl,(hv 0 v s rfl rfl).1⟩
theorem MI {K:PySem.W.Frag}{H:HZ}{vs:List V}{s t:S} (h:Args K H vs [s,t]):∃v u,vs=[v,u]∧IsS K H v s∧IsS K H u t:=by
 obtain⟨hl,hv⟩:=h
 obtain⟨v,u,rfl⟩:=Ww hl
 exact⟨v,u,rfl,(hv 0 v s rfl rfl).1,(hv 1 u t rfl rfl).1⟩
def bI1 (g:Int→Int):List S→(S→Prop)→Prop:=fun ss R=>match ss with
 |[.d (.int i)]=>R (.d (.int (g i)))
 |_=>False
def bI2 (g:Int→Int→Int):List S→(S→Prop)→Prop:=fun ss R=>match ss with
 |[.d (.int i),.d (.int j)]=>R (.d (.int (g i j)))
 |_=>False
def XQ:List S→(S→Prop)→Prop:=fun ss R=>match ss with
 |[.d (.int i)]=>R (.d (.int (if i<0 then -i else i)))
 |_=>False
def W3:List S→(S→Prop)→Prop:=fun ss R=>match ss with
 |[.d (.int i),.d (.int j)]=>R (.d (.int (if j>i then j else i)))
 |_=>False
def Xn:List S→(S→Prop)→Prop:=fun ss R=>match ss with
 |[.d (.int i),.d (.int j)]=>R (.d (.int (if j<i then j else i)))
 |_=>False
theorem Zd:Co X (.builtin "abs") XQ :=
 Bm MV fun xs H Q hh=>by
  obtain⟨z,ss,R,hz,ha,h3,q⟩:=hh
  unfold XQ at h3
  split at h3
  ·rename_i i
   obtain⟨v,rfl,h⟩:=Ef ha
   cases Is.int_inv h
   exact⟨i,rfl,q (.d _) _ ⟨H,z⟩ (Ext.refl hz) (Is.int _) Bp h3⟩
  ·exact h3.elim
theorem UX (hc:X.calm=true):Co X (.builtin "max") W3 :=
 Bm (Lx hc) fun xs H Q hh=>by
  obtain⟨z,ss,R,hz,ha,h3,q⟩:=hh
  unfold W3 at h3
  split at h3
  ·rename_i i j
   obtain⟨v,u,rfl,h,h'⟩:=MI ha
   cases Is.int_inv h
   cases Is.int_inv h'
   exact⟨i,j,rfl,q (.d _) _ ⟨H,z⟩ (Ext.refl hz) (Is.int _) Bp h3⟩
  ·exact h3.elim
theorem X0 (hc:X.calm=true):Co X (.builtin "min") Xn :=
 Bm (K3 hc) fun xs H Q hh=>by
  obtain⟨z,ss,R,hz,ha,h3,q⟩:=hh
  unfold Xn at h3
  split at h3
  ·rename_i i j
   obtain⟨v,u,rfl,h,h'⟩:=MI ha
   cases Is.int_inv h
   cases Is.int_inv h'
   exact⟨i,j,rfl,q (.d _) _ ⟨H,z⟩ (Ext.refl hz) (Is.int _) Bp h3⟩
  ·exact h3.elim
def Va:List S→(S→Prop)→Prop:=fun ss R=>match ss with
 |[s]=>match items s with
  |some xs=>R (.d (.int xs.length))
  |none=>False
 |_=>False
theorem Ut:Co X (.builtin "len") Va :=
 Bm Hv fun xs H Q hh=>by
  obtain⟨z,ss,R,hz,ha,h3,q⟩:=hh
  unfold Va at h3
  split at h3
  ·rename_i s
   split at h3
   ·rename_i ys hy
    obtain⟨v,rfl,h⟩:=Ef ha
    cases s with
    |d z =>
     cases z with
     |tup zs =>
      cases hy
      obtain⟨p,vs,rfl,h1,h2⟩:=Is.tup_inv h
      exact⟨p,vs,rfl,.inr (SqT.same hz h1),by rw[h2.1];exact q (.d _) _ ⟨H,z⟩ (Ext.refl hz) (Is.int _) Bp h3⟩
     |lst zs =>
      cases hy
      obtain⟨p,vs,rfl,h1,h2⟩:=Is.lst_inv h
      exact⟨p,vs,rfl,.inl (hz.seq h1),by rw[h2.1];exact q (.d _) _ ⟨H,z⟩ (Ext.refl hz) (Is.int _) Bp h3⟩
     |_=>cases hy
    |l zs =>
     cases hy
     obtain⟨p,vs,rfl,h1,h2⟩:=h
     exact⟨p,vs,rfl,.inl (SqL.of h1),by rw[h2.1];exact q (.d _) _ ⟨H,z⟩ (Ext.refl hz) (Is.int _) Bp h3⟩
    |r zs =>
     cases hy
     obtain⟨p,vs,rfl,h1,h2⟩:=h
     exact⟨p,vs,rfl,.inl h1,by rw[h2.1];exact q (.d _) _ ⟨H,z⟩ (Ext.refl hz) (Is.int _) Bp h3⟩
   ·exact h3.elim
  ·exact h3.elim
inductive Ty where
 |int|bool|tuple|str|list
def Qb:Ty→String
 |.int=>"int"
 |.bool=>"bool"
 |.tuple=>"tuple"
 |.str=>"str"
 |.list=>"list"
def Ve:Ty→S→Bool
 |.int,.d (.int _)=>true
 |.int,.d (.bl _)=>true
 |.bool,.d (.bl _)=>true
 |.tuple,.d (.tup _)=>true
 |.str,.d (.str _)=>true
 |.list,.l _=>true
 |.list,.r _=>true
 |.list,.d (.lst _)=>true
 |_,_=>false
def Xk:S→Prop
 |.d (.ty _)=>False
 |.d (.ref _)=>False
 |.d (.obj _ _ _)=>False
 |.d (.dic _)=>False
 |_=>True
theorem Mj (k:Ty):A7 X (.builtin "isinstance") (fun xs H Q=>∃z x s,AU z H∧xs=[x,.ty (Qb k)]∧IsS X.K ⟨H,z⟩ x s∧Xk s∧Q (.bl (Ve k s)) H):=by
 intro pins s σ H xs us Q I rs h
 obtain⟨zz,x,z,hz,rfl,h1,h2,q⟩:=h
 obtain⟨v',u',rfl,r1,r2⟩:=Jz rs
 cases r2
 have fin:∀tk,EP X pins σ Q (.bool (Ve k z)) { s with toks:=tk }:=fun tk=>⟨.bl _,H,I.tok tk,rfl,q⟩
 cases z with
 |d z =>
  cases z with
  |non=>cases Is.non_inv h1;exact CO I r1 .non (by cases k<;>kernel_rfl) fin
  |bl y=>cases Is.bl_inv h1;exact CO I r1 (.bl y) (by cases k<;>kernel_rfl) fin
  |int y=>cases Is.int_inv h1;exact CO I r1 (.int y) (by cases k<;>kernel_rfl) fin
  |str y=>cases Is.str_inv h1;exact CO I r1 (.str y) (by cases k<;>kernel_rfl) fin
  |ty y=>exact h2.elim
  |ref y=>exact h2.elim
  |obj C ns y=>exact h2.elim
  |dic ns=>exact h2.elim
  |lst y =>
   obtain⟨p,vs,rfl,g1,g2⟩:=Is.lst_inv h1
   cases r1
   obtain⟨its,_,pl,_⟩:=I.list (hz.seq g1)
   obtain⟨o,n',e1,e2,_⟩:=pl
   exact qAK qBz I.kIn ⟨o,e1,e2⟩ (by cases k<;>kernel_rfl) (fun z=>nomatch z) fin
  |tup y =>
   obtain⟨p,vs,rfl,g1,g2⟩:=Is.tup_inv h1
   cases r1
   obtain⟨its,_,pl,_⟩:=I.tuple (SqT.same hz g1)
   obtain⟨o,e1,e2,_⟩:=pl
   exact qAK PySem.W.kitx_tuple I.kIn ⟨o,e1,e2⟩ (by cases k<;>kernel_rfl) (fun z=>nomatch z) fin
 |l y =>
  obtain⟨p,vs,rfl,g1,g2⟩:=h1
  cases r1
  obtain⟨its,_,pl,_⟩:=I.list (SqL.of g1)
  obtain⟨o,n',e1,e2,_⟩:=pl
  exact qAK qBz I.kIn ⟨o,e1,e2⟩ (by cases k<;>kernel_rfl) (fun z=>nomatch z) fin
 |r y =>
  obtain⟨p,vs,rfl,g1,g2⟩:=h1
  cases r1
  obtain⟨its,_,pl,_⟩:=I.list g1
  obtain⟨o,n',e1,e2,_⟩:=pl
  exact qAK qBz I.kIn ⟨o,e1,e2⟩ (by cases k<;>kernel_rfl) (fun z=>nomatch z) fin
theorem ZU {x:Str}{n:String} (hg:Gl X x) (hm:X.mg x=none) (hv:bootBuiltins x=some (.type n)) (hn:x≠"__name__":=by decide) (hd:(x==("__debug__":Str))=false:=by decide):PE3 X (.Name x pos) (vC (.ty n)) :=
 EF (Ir (v:=.ty n) hg hm hv rfl hn hd) fun _ _=>.ty n
def YL (k:Ty)(te:TE3):TE3:=fun τ R=>te τ fun x=>Xk x∧R (.d (.bl (Ve k x)))
theorem Qd (k:Ty){y:Str}{p p2:Pos} (ha:PE3 X e te) (hg:Gl X "isinstance") (hm:X.mg "isinstance"=none) (hg2:Gl X y) (hm2:X.mg y=none) (hv:bootBuiltins y=some (.type (Qb k)))
 (hn:y≠"__name__":=by decide) (hd:(y==("__debug__":Str))=false:=by decide)
 (he:starEach [e,.Name y p2] X.env=(false,eval e X.env)::starEach [.Name y p2] X.env:=by exact AI rfl) (he2:starEach [.Name y p2] X.env=(false,eval (.Name y p2) X.env)::starEach [] X.env:=by exact AI rfl) (hpl:(backTo pos (starEach [.Name y p2] X.env)).any (·.1)=false:=by exact A1 rfl) :
 PE3 X (.Call (.Name "isinstance" p) [e,.Name y p2] [] pos) (YL k te):=⟨Al (Cj (Mj k) hg hm qBC (Az ha.out (Az (Ir (v:=.ty (Qb k)) hg2 hm2 hv rfl hn hd) A5 he2) he) (he:=he) (hpl:=hpl)) fun σ H Q ⟨B,z,τ,R,r,ht,q⟩ =>
 ⟨B,_,τ,_,r,ht,fun s v H1 e1 i1 f1 h1=>⟨H1.z,v,s,e1.sub,rfl,i1,h1.1,q (.d _) _ H1 e1 (Is.bl _) Bp h1.2⟩⟩⟩
abbrev Sp3:=List S→(S→Prop)→(Str→Prop)→Prop
def An (K:PySem.W.Frag)(mg:Str→Option Value)(sp:Sp3):Sp:=fun vs H Q E=>∃z ss R U,AU z H∧Args K ⟨H,z⟩ vs ss∧sp ss R U∧(∀s v q,Ext ⟨H,z⟩ q→IsS K q v s→Fr3 K ⟨H,z⟩ q v s→R s→Q v q.h) ∧
 ∀x C H',AU H H'→mg x=some (.ref C)→U x→E (.ref C) none H'
structure Cal (P:Program)(w:World)(K:PySem.W.Frag)(mg:Str→Option Value)(base:Heap)(CX:CXT)(k:Nat)(x:Str)(ps:List Str)(sp:Sp3):Prop where
 ex:∃f fd,AJ P w K mg base CX k f fd ps (An K mg sp)∧mg x=some (.ref f)∧PySem.W.keepIn K (.ref f)=true∧Binds K fd ps []
def NoU:Str→Prop:=fun _=>False
def Vv (sp:Sp3)(t:TA3):TE3:=fun τ R=>t τ fun ss=>sp ss R NoU
theorem Xc {k:Nat}{x:Str}{ps:List Str}{sp:Sp3}{p:Pos} (c:Cal X.prog X.w X.K X.mg X.base CX0 k x ps sp) (hr:Be k X.A) (hg:Gl X x) (ha:PA3 X (e::es) tr)
 (hdb:(x==("__debug__":Str))=false:=by decide) (he:starEach (e::es) X.env=(false,eval e X.env)::starEach es X.env:=by exact AI rfl) (hpl:(backTo pos (starEach es X.env)).any (·.1)=false:=by exact A1 rfl) :
 PE3 X (.Call (.Name x p) (e::es) [] pos) (Vv sp tr):=by
 refine⟨?_⟩
 obtain⟨f,fd,F,hm,hk,hb⟩:=c.ex
 refine Al (KR F hr hg hm hk hb .nil Vy ha.out hdb he hpl) fun σ H Q ⟨B,z,τ,R,r,ht,q⟩=>⟨B,_,τ,_,r,ht,fun ss vs H1 e1 i1 h1=>?_⟩
 show An X.K X.mg sp (vs++[]) H1.h Q E0
 rw[qA0]
 exact⟨H1.z,ss,R,NoU,e1.sub,i1,h1,fun s v H2 e2 i2 f2 h2=>q s v H2 (e1.trans e2) i2 (CA e1 f2) h2,fun _ _ _ _ _ z=>z.elim⟩
variable {st:Stmt}{rest':List Stmt}{t u:TS3}
def R4:TS3:=fun D3 τ=>D3.nx τ
def La (t u:TS3):TS3:=fun D3 τ=>t { D3 with nx:=u D3 } τ
def YB (t u:TS3):TS3:=fun D3 τ=>∃mid:Tau→Prop,t { D3 with nx:=mid } τ∧∀τ',mid τ'→u D3 τ'
theorem Au:C4 X [] R4:=⟨Bw LX fun _ _ _ ⟨_,_,_,_,r,ht,c⟩=>c.nx _ _ _ r ht⟩
theorem A6 (h:PS3 X st t):C4 X [st] t:=⟨FY h.out⟩
theorem Ad (h1:PS3 X st t)(h2:C4 X rest' u):C4 X (st::rest') (La t u):=⟨Bw (BS h1.out h2.out) fun D2 σ H hh=>by obtain⟨B,z,τ,D3,r,ht,c⟩:=hh;exact⟨B,_,τ,{ D3 with nx:=u D3 },r,ht,⟨fun τ' σ' p' r' h'=>⟨B,_,τ',D3,r',h',c⟩,c.bk,c.ct,c.rt⟩⟩⟩
theorem Hw (h1:PS3 X st t)(h2:C4 X rest' u):C4 X (st::rest') (YB t u):=⟨Bw (BS h1.out h2.out) fun D2 σ H ⟨B,z,τ,D3,r,⟨mid,ht,hm⟩,c⟩=>⟨B,_,τ,{ D3 with nx:=mid },r,ht,⟨fun τ' σ' p' r' h'=>⟨B,_,τ',D3,r',hm τ' h',c⟩,c.bk,c.ct,c.rt⟩⟩⟩
def sGd (t u:TS3):TS3:=fun D3 τ=>t { D3 with nx:=fun τ'=>τ'=τ } τ∧u D3 τ
theorem K4 (h1:PS3 X st t)(h2:C4 X rest' u):C4 X (st::rest') (sGd t u):=⟨Bw (Hw h1 h2).out fun D2 σ H ⟨B,z,τ,D3,r,⟨ht,hu⟩,c⟩=>⟨B,_,τ,D3,r,⟨fun τ'=>τ'=τ,ht,fun τ' e=>by subst e;exact hu⟩,c⟩⟩
def NN:TS3:=fun _ _=>False
theorem VC:PS3 X st NN:=⟨AF Nm fun _ _ _ ⟨_,_,_,_,_,h,_⟩=>h.elim⟩
theorem Tt {sts:List Stmt}:C4 X sts NN:=⟨Bw LN fun _ _ _ ⟨_,_,_,_,_,h,_⟩=>h.elim⟩
theorem XD:PS3 X (.Pass pos) R4:=⟨AF OM fun _ _ _ ⟨_,_,_,_,r,ht,c⟩=>c.nx _ _ _ r ht⟩
def SH:TS3:=fun D3 τ=>D3.bk τ
def Vo:TS3:=fun D3 τ=>D3.ct τ
theorem Uw:PS3 X (.Break pos) SH:=⟨AF Mf fun _ _ _ ⟨_,_,_,_,r,ht,c⟩=>c.bk _ _ _ r ht⟩
theorem QA:PS3 X (.Continue pos) Vo:=⟨AF Ig fun _ _ _ ⟨_,_,_,_,r,ht,c⟩=>c.ct _ _ _ r ht⟩
def Ud (te:TE3):TS3:=fun D3 τ=>te τ fun _=>D3.nx τ
theorem S4 (he:PE3 X e te)(hs:swapsWith e none pos.line X.env=pure false:=by rfl):PS3 X (.Expr e pos) (Ud te):=⟨AF (H0 he.out hs) fun D2 σ H hh=>by obtain⟨B,z,τ,D3,r,ht,c⟩:=hh;exact⟨B,_,τ,_,r,ht,fun s v H' e i f h=>c.nx _ _ _ (r.mono e) h⟩⟩
def XA (te:TE3):TS3:=fun D3 τ=>te τ D3.rt
theorem Ul (he:PE3 X e te):PS3 X (.Return (some e) pos) (XA te):=⟨AF (NF he.out) fun D2 σ H hh=>by obtain⟨B,z,τ,D3,r,ht,c⟩:=hh;exact⟨B,_,τ,_,r,ht,fun s v H' e i f h=>c.rt s v H' (r.ext.trans e) i (CA r.ext f) h⟩⟩
def RB (i:Nat):TS3:=fun D3 τ=>match τ[i]? with
 |some (some s)=>D3.rt s
 |_=>False
theorem RE {i:Nat}{x:Str}{pos':Pos} (h:PE X (.Name x pos') (Gw i)):PS3 X (.Return (some (.Name x pos')) pos) (RB i):=⟨AF (NF h) fun D2 σ H hh=>by
 obtain⟨B,z,τ,D3,r,ht,c⟩:=hh
 unfold RB at ht
 split at ht
 ·rename_i s hs
  obtain⟨v,h1,h2⟩:=r.val i s hs
  exact⟨v,h1,c.rt s v ⟨H,z⟩ r.ext h2 (fun xs a e1 e2=>r.own i xs a (by rw[←e1];exact hs) (by rw[←e2];exact h1)) ht⟩
 ·exact ht.elim⟩
def VQ:TS3:=fun D3 _=>D3.rt (.d .non)
theorem WT:PS3 X (.Return none pos) VQ:=⟨AF OO fun _ _ _ ⟨_,_,_,_,r,ht,c⟩=>c.rt (.d .non) _ _ r.ext Is.non Bp ht⟩
def sIf (c:TT3)(t u:TS3):TS3:=fun D3 τ=>c τ fun b=>if b=true then t D3 τ else u D3 τ
theorem BV {c:Expr}{as bs:List Stmt}{tc:TT3} (hc:PT3 X c tc) (ha:C4 X as t) (hb:C4 X bs u):PS3 X (.If c as bs pos) (sIf tc t u):=⟨AF (RM hc.out ha.out hb.out) fun D2 σ H hh=>by obtain⟨B,z,τ,D3,r,ht,c⟩:=hh;exact⟨B,_,τ,_,r,ht,fun b H1 e h=>by
 cases b with
 |true=>rw[if_pos rfl] at h ⊢;exact⟨B,_,τ,D3,r.mono e,h,c⟩
 |false=>rw[if_neg qAe] at h ⊢;exact⟨B,_,τ,D3,r.mono e,h,c⟩⟩⟩
def Td (i:Nat)(te:TE3):TS3:=fun D3 τ=>te τ fun s=>match s with
 |.r _=>False
 |.d x=>D3.nx (τ.set i (some (.d x)))
 |.l xs=>D3.nx (τ.set i (some (.l xs)))
theorem Wa {i:Nat}{x:Str}{pos':Pos} (hN:X.N.Nodup) (hi:X.N[i]? = some x) (hx:Loc X.env.scope x) (he:PE3 X e te) (hs:swapsWith e (some (.Name x pos')) pos.line X.env=pure false:=by rfl) (hf:X.fn x=true∨X.env.scope.names.lookup x=some .local:=by first|exact .inl rfl|exact .inr rfl|assumption) (hp:Bi X i:=by first|exact AZ rfl|exact A0 rfl ∅|assumption) :
 PS3 X (.Assign [.Name x pos'] e pos) (Td i te):=⟨AF (N4 hN hi hx he.out hs hf) fun D2 σ H hh=>by obtain⟨B,z,τ,D3,r,ht,c⟩:=hh;exact⟨B,_,τ,_,r,ht,fun s v H' e i f h=>by
 cases s with
 |r _=>exact h.elim
 |d y=>exact c.nx _ _ _ (r.set e i f rfl hp) h
 |l ys=>exact c.nx _ _ _ (r.set e i f rfl hp) h⟩⟩
theorem Rep.push {B:HZ}{H z:Hp}{τ:Tau}{σ:St}{i:Nat}{xs:List D}{l:Addr}{vs:List V}{w:V}{d:D} (r:Rep X B τ σ ⟨H,z⟩) (hi:τ[i]? = some (some (.l xs))) (hσ:σ[i]? = some (some (.ref l)))
 (hl:H l=some (.lst vs)) (hv:Iss X.K z vs xs) (iw:Is X.K z w d):Rep X B (τ.set i (some (.l (xs++[d])))) σ ⟨upd H l (.lst (vs++[w])),z⟩:=by
 obtain⟨o1,o2,o3⟩:=r.own i xs l hi hσ
 refine⟨by simp[r.len],⟨fun b o h=>?_,r.ext.zz,fun b o h=>?_,r.ext.new⟩,fun j s hj=>?_,fun j ys a hj ha=>?_,fun j k ys s a hjk hj hk hs ha=>?_,r.top,r.pin⟩
 ·have hb:b≠l:=by
   rintro rfl
   rw[h] at o1
   cases o1
  show upd H l _ b=some o
  rw[Af hb]
  exact r.ext.hh b o h
 ·have hb:b≠l:=by
   rintro rfl
   have h':z b=some o:=h
   rw[show z b=none from o3] at h'
   cases h'
  show upd H l _ b=some o
  rw[Af hb]
  exact r.ext.sub b o h
 ·rcases Ar hj with⟨rfl,rfl⟩|⟨hn,hj⟩
  ·exact⟨.ref l,hσ,l,_,rfl,Ac,hv.snoc iw⟩
  ·obtain⟨v,h1,h2⟩:=r.val j s hj
   refine⟨v,h1,?_⟩
   cases s with
   |d x=>exact h2
   |l ys =>
    obtain⟨b,ws,rfl,h3,h4⟩:=h2
    have hb:b≠l:=by
     rintro rfl
     exact r.sep i j xs (.l ys) b (fun z=>hn z.symm) hi hj rfl hσ h1
    exact⟨b,ws,rfl,by show upd H l _ b=_;rw[Af hb];exact h3,h4⟩
   |r ys =>
    obtain⟨b,ws,rfl,h3,h4⟩:=h2
    have hb:b≠l:=by
     rintro rfl
     exact r.sep i j xs (.r ys) b (fun z=>hn z.symm) hi hj rfl hσ h1
    refine⟨b,ws,rfl,?_,h4⟩
    rcases h3 with (h3|⟨o,h3⟩)|h3
    ·exact .inl (.inl (by show upd H l _ b=_;rw[Af hb];exact h3))
    ·exact .inl (.inr ⟨o,by show upd H l _ b=_;rw[Af hb];exact h3⟩)
    ·exact .inr h3
 ·rcases Ar hj with⟨rfl,_⟩|⟨hn,hj⟩
  ·exact r.own j xs a hi ha
  ·exact r.own j ys a hj ha
 ·rcases Ar hj with⟨rfl,_⟩|⟨hn,hj'⟩
  ·rcases Ar hk with⟨e3,_⟩|⟨hkn,hk'⟩
   ·exact absurd e3.symm hjk
   ·exact r.sep j k xs s a hjk hi hk' hs ha
  ·rcases Ar hk with⟨rfl,rfl⟩|⟨hkn,hk'⟩
   ·exact r.sep j k ys (.l xs) a hjk hj' hi rfl ha
   ·exact r.sep j k ys s a hjk hj' hk' hs ha
def We (i:Nat)(te:TE3):TS3:=fun D3 τ=>match τ[i]? with
 |some (some (.l xs))=>te τ fun s=>dd s.arg fun d=>xs.length<1000000∧D3.nx (τ.set i (some (.l (xs++[d]))))
 |_=>False
theorem T4 {i:Nat}{o:Expr}{apos cpos:Pos} (h:PS X (.Expr (.Call (.Attribute o "append" apos) [e] [] cpos) pos) (Nt (tBM X.K "list" Ll (Gw i) (O0 (FE X te) OI)))) :
 PS3 X (.Expr (.Call (.Attribute o "append" apos) [e] [] cpos) pos) (We i te):=⟨AF h fun D2 σ H hh=>by
 obtain⟨B,z,τ,D3,r,ht,c⟩:=hh
 unfold We at ht
 split at ht
 ·rename_i xs hs
  obtain⟨v,h1,a,vs,rfl,h2,h3⟩:=r.val i _ hs
  refine⟨.ref a,h1,.inl ⟨rfl,vs,SqL.of h2⟩,B,_,τ,_,r,ht,fun s v H' e i' f h=>?_⟩
  obtain⟨d,hd,h4,h5⟩:=Cm h
  obtain⟨z',e',i''⟩:=Dc e i' f
  rw[hd] at i''
  have sz:(1000000:Nat)<sizeLine:=∅
  exact⟨a,vs,v,rfl,rfl,e.hh _ _ h2,by rw[h3.1];omega,c.nx _ _ _ ((r.mono e').push hs h1 (e.hh _ _ h2) (h3.mono e'.zz) i'') h5⟩
 ·exact ht.elim⟩
def QZ (c:TT3)(tb:TS3):TS3:=fun D3 τ=>∃W:Nat→Tau→Prop,(∃m,W m τ)∧∀m τ,W m τ →
 c τ fun b=>if b=true then tb { D3 with nx:=fun τ'=>∃m',m'<m∧W m' τ',ct:=fun τ'=>∃m',m'<m∧W m' τ',bk:=D3.nx } τ else D3.nx τ
theorem Vb {c:Expr}{body:List Stmt}{tc:TT3}{tb:TS3} (hp:PassesOwn (model X.prog X.w) X.A X.env X.xe) (hc:PT3 X c tc) (hb:C4 X body tb):PS3 X (.While c body [] pos) (QZ tc tb):=⟨AF (Nz hp hc.out hb.out) fun D2 σ H hh=>by
 obtain⟨B,z,τ,D3,r,⟨W,⟨m0,w0⟩,turn⟩,c⟩:=hh
 refine⟨fun m σ H=>∃z τ,Rep X B τ σ ⟨H,z⟩∧W m τ,⟨m0,z,τ,r,w0⟩,?_⟩
 rintro m σ1 H1 ⟨z1,τ1,r1,w1⟩
 refine⟨B,_,τ1,_,r1,turn m τ1 w1,fun b H2 e h=>?_⟩
 cases b with
 |true =>
  rw[if_pos rfl] at h ⊢
  refine⟨fun σ' H'=>∃m',m'<m∧∃z τ,Rep X B τ σ' ⟨H',z⟩∧W m' τ,fun σ' H' ⟨m',h1,h2⟩=>⟨m',h1,h2⟩,B,_,τ1,_,r1.mono e,h,⟨?_,c.nx,?_,c.rt⟩⟩
  ·rintro τ' σ' p' r' ⟨m',h1,h2⟩
   exact⟨m',h1,p'.z,τ',r',h2⟩
  ·rintro τ' σ' p' r' ⟨m',h1,h2⟩
   exact⟨m',h1,p'.z,τ',r',h2⟩
 |false =>
  rw[if_neg qAe] at h ⊢
  exact c.nx _ _ _ (r1.mono e) h⟩
def EL (i:Nat)(xs:List D)(tb:TS3)(D3:Gr)(τ0:Tau):Prop:=∃I:Nat→Tau→Prop,I 0 τ0 ∧
 (∀n τ x,xs[n]? = some x→I n τ→tb { D3 with nx:=I (n+1),ct:=I (n+1),bk:=D3.nx } (τ.set i (some (.d x))))∧∀τ,I xs.length τ→D3.nx τ
theorem Rep.setd {B p:HZ}{τ:Tau}{σ:St}{i:Nat}{v:V}{x:D} (r:Rep X B τ σ p) (h:Is X.K p.z v x) (hp:Bi X i):Rep X B (τ.set i (some (.d x))) (σ.set i (some v)) p :=
 r.set (s:=.d x) (Ext.refl r.ext.sub) h Bp rfl hp
theorem N6.inB {B B':HZ}{D3:Gr}{D2:GI}{I:Tau→Prop}{N:St→Hp→Prop} (e:LeB X B B') (c:N6 X B D3 D2) (hN:∀τ σ p,Rep X B' τ σ p→I τ→N σ p.h) :
 N6 X B' { D3 with nx:=I,ct:=I,bk:=D3.nx } { D2 with nx:=N,ct:=N,bk:=D2.nx } :=
 ⟨hN,fun τ σ H r h=>c.nx τ σ H (r.outB e) h,hN,fun s v q h1 h2 h3 h4=>c.rt s v q (e.ext h1) h2 (fun xs a x1 x2=>⟨e.hh.free (h3 xs a x1 x2).1,(h3 xs a x1 x2).2⟩) h4⟩
theorem Df {K:PySem.W.Frag}{H:Hp}{vs:List V}{xs:List D}{n:Nat}{v:V} (h:Iss K H vs xs) (e:vs[n]? = some v):∃x,xs[n]? = some x∧Is K H v x:=by
 have hn:=(qAj.mp e).1
 have hx:xs[n]? = some (xs[n]'(by rw[←h.1];exact hn)):=qAc (by rw[←h.1];exact hn)
 exact⟨_,hx,h.2 n v _ e hx⟩
theorem FU {B:HZ}{τ:Tau}{σ:St}{H z:Hp}{D2:GI}{D3:Gr}{a:Addr}{vs:List V}{xs:List D}{i:Nat}{tb:TS3} (r:Rep X B τ σ ⟨H,z⟩) (c:N6 X B D3 D2) (hs:SqL X.K H a vs) (hv:Iss X.K z vs xs)
 (hno:∀(j:Nat)(ys:List D),τ[j]? = some (some (S.l ys))→σ[j]?≠some (some (V.ref a))) (h:EL i xs tb D3 τ) (hp:Bi X i) :
 ∃W:Nat→Nat→St→Hp→Prop,(∃m,W 0 m σ H)∧∀n m σ H,W n m σ H →
  ((Itl X.K a).stop n H∧D2.nx σ H)∨((Itl X.K a).go n H∧∃N:St→Hp→Prop,(∀σ' H',N σ' H'→∃m',m'<m∧W (n+1) m' σ' H')∧∀x H',(Itl X.K a).yld n H x H'→BL i x σ H' fun σ2 H2=>FS X tb { D2 with nx:=N,ct:=N,bk:=D2.nx } σ2 H2):=by
 obtain⟨I,i0,turn,out⟩:=h
 have hB:SqL X.K (Eu τ σ H) a vs:=by
  rcases hs with (hs|⟨o,hs⟩)|hs
  ·exact .inl (.inl (by rw[DC hno];exact hs))
  ·exact .inl (.inr ⟨o,by rw[DC hno];exact hs⟩)
  ·exact .inr hs
 refine MF (K:=X.K) (a:=a) (xs:=vs) (g:=BL i) (tb:=FS X tb) (D:=D2) (fun n σ1 H1=>∃z1 τ1,Rep X ⟨Eu τ σ H,z⟩ τ1 σ1 ⟨H1,z1⟩∧I n τ1) ⟨z,τ,r.inB,i0⟩ (fun n σ1 H1 _ ⟨z1,τ1,r1,_⟩=>r1.ext.hh.seq hB) ?_ ?_
 ·rintro n v σ1 H1 hn ⟨z1,τ1,r1,i1⟩
  obtain⟨x,hx,ix⟩:=Df hv hn
  exact⟨_,_,_,_,r1.setd (ix.mono r1.ext.zz) hp,turn n τ1 x hx i1,c.inB r.leB fun τ' σ' p' r' h'=>⟨p'.z,τ',r',h'⟩⟩
 ·rintro σ1 H1 ⟨z1,τ1,r1,i1⟩
  exact c.nx _ _ _ (r1.outB r.leB) (out τ1 (by rw[←hv.1];exact i1))
theorem Of {B:HZ}{τ:Tau}{σ:St}{H z:Hp}{D2:GI}{D3:Gr}{a:Addr}{vs:List V}{xs:List D}{i:Nat}{tb:TS3} (r:Rep X B τ σ ⟨H,z⟩) (c:N6 X B D3 D2) (hs:SqT X.K z a vs) (hv:Iss X.K z vs xs)
 (h:EL i xs tb D3 τ) (hp:Bi X i) :
 ∃W:Nat→Nat→St→Hp→Prop,(∃m,W 0 m σ H)∧∀n m σ H,W n m σ H →
  ((Itt X.K a).stop n H∧D2.nx σ H)∨((Itt X.K a).go n H∧∃N:St→Hp→Prop,(∀σ' H',N σ' H'→∃m',m'<m∧W (n+1) m' σ' H')∧∀x H',(Itt X.K a).yld n H x H'→BL i x σ H' fun σ2 H2=>FS X tb { D2 with nx:=N,ct:=N,bk:=D2.nx } σ2 H2):=by
 obtain⟨I,i0,turn,out⟩:=h
 refine OR (K:=X.K) (a:=a) (xs:=vs) (g:=BL i) (tb:=FS X tb) (D:=D2) (fun n σ1 H1=>∃z1 τ1,Rep X ⟨Eu τ σ H,z⟩ τ1 σ1 ⟨H1,z1⟩∧I n τ1) ⟨z,τ,r.inB,i0⟩ (fun n σ1 H1 _ ⟨z1,τ1,r1,_⟩=>SqT.same (r1.ext.zz.trans r1.ext.sub) hs) ?_ ?_
 ·rintro n v σ1 H1 hn ⟨z1,τ1,r1,i1⟩
  obtain⟨x,hx,ix⟩:=Df hv hn
  exact⟨_,_,_,_,r1.setd (ix.mono r1.ext.zz) hp,turn n τ1 x hx i1,c.inB r.leB fun τ' σ' p' r' h'=>⟨p'.z,τ',r',h'⟩⟩
 ·rintro σ1 H1 ⟨z1,τ1,r1,i1⟩
  exact c.nx _ _ _ (r1.outB r.leB) (out τ1 (by rw[←hv.1];exact i1))
def SW (K:PySem.W.Frag)(tl:TE):TI:=fun σ H R=>tl σ H fun x H1=>∃a,x=.ref a∧(((∃xs,SqL K H1 a xs)∧R (Itl K a) H1)∨((∃xs,SqT K H1 a xs)∧R (Itt K a) H1))
theorem WR {tg l:Expr}{tl:TE} (hl:PE X l tl):PI X tg l (SW X.K tl):=by
 intro pins s σ H R I h
 refine thn (hl pins s σ H _ I h) fun v s1 hh9=>?_
 obtain⟨x,H1,I1,r1,q1⟩:=hh9
 obtain⟨a,e,⟨⟨xs,hq⟩,q⟩|⟨⟨xs,hq⟩,q⟩⟩:=q1
 ·subst e
  cases r1
  obtain⟨its,rv,p,hz⟩:=I1.list hq
  refine wpAny_pyIter_list p.isList ?_
  refine⟨s1.heap.objs.size,[s1.heap.objs.size],_,_,H1,rfl,I1.kept (t':=s1.toks) fun b o e=>qAb _ e,Hc a _,⟨_,qAm _ rfl,rfl,rfl⟩,fun b hb=>?_,q⟩
  have e:b=s1.heap.objs.size:=by simpa using hb
  subst e
  exact I1.fpOk (qAg _) (I1.hok.fresh (qAg _))
 ·subst e
  cases r1
  obtain⟨its,rv,p,hz⟩:=I1.tuple hq
  refine wpAny_pyIter_tuple (show s1.heap.IsTuple a its.toArray from p) ?_
  refine⟨s1.heap.objs.size,[s1.heap.objs.size],_,_,H1,rfl,I1.kept (t':=s1.toks) fun b o e=>qAb _ e,Fh a _,⟨_,qAm _ rfl,rfl,rfl⟩,fun b hb=>?_,q⟩
  have e:b=s1.heap.objs.size:=by simpa using hb
  subst e
  exact I1.fpOk (qAg _) (I1.hok.fresh (qAg _))
theorem Rep.notown {B:HZ}{τ:Tau}{σ:St}{p:HZ}{a:Addr}{o:HO} (r:Rep X B τ σ p) (h:p.z a=some o):∀(j:Nat)(ys:List D),τ[j]? = some (some (S.l ys))→σ[j]?≠some (some (V.ref a)):=fun j ys h1 h2=>by
 have:=(r.own j ys a h1 h2).2.2
 rw[h] at this
 cases this
theorem E9 {B:HZ}{τ:Tau}{σ:St}{p:HZ}{a:Addr}{vs:List V} (r:Rep X B τ σ p) (h:SqL X.K p.z a vs):∀(j:Nat)(ys:List D),τ[j]? = some (some (S.l ys))→σ[j]?≠some (some (V.ref a)):=by
 rcases h with (h|⟨o,h⟩)|⟨o,its,n,h,_⟩
 ·exact r.notown h
 ·exact r.notown h
 ·intro j ys h1 h2
  have:=(r.own j ys a h1 h2).2.1
  rw[h] at this
  cases this
def QX (j i:Nat)(tb:TS3):TS3:=fun D3 τ=>match τ[j]? with
 |some (some (.d (.tup xs)))=>EL i xs tb D3 τ
 |some (some (.d (.lst xs)))=>EL i xs tb D3 τ
 |some (some (.l xs))=>EL i xs tb D3 (τ.set j (some (.r xs)))
 |some (some (.r xs))=>EL i xs tb D3 (τ.set j (some (.r xs)))
 |_=>False
theorem Xo {j i:Nat}{x y:Str}{px py:Pos}{body:List Stmt}{tb:TS3} (h:PS X (.For (.Name x px) (.Name y py) body [] pos) (Kg (SW X.K (Gw j)) (BL i) (FS X tb))) (hp:Bi X i:=by first|exact AZ rfl|exact A0 rfl ∅|assumption):PS3 X (.For (.Name x px) (.Name y py) body [] pos) (QX j i tb):=⟨AF h fun D2 σ H hh=>by
 obtain⟨B,z,τ,D3,r,ht,c⟩:=hh
 have lists:∀(s:S)(xs:List D),τ[j]? = some (some s)→s.share=.r xs→EL i xs tb D3 (τ.set j (some (.r xs)))→Kg (SW X.K (Gw j)) (BL i) (FS X tb) D2 σ H:=fun s xs hs hx ht=>by
  obtain⟨v,h1,h2⟩:=r.val j s hs
  have h2':=h2.share
  rw[hx] at h2'
  obtain⟨a,vs,rfl,h3,h4⟩:=h2'
  have r':=r.freeze hs hx
  refine⟨.ref a,h1,a,rfl,.inl ⟨⟨vs,h3⟩,FU r' c h3 h4 (fun m ys hm hσ=>?_) ht hp⟩⟩
  rcases Ar hm with⟨rfl,z⟩|⟨hn,hm'⟩
  ·cases z
  ·have hl:j<τ.length:=(qAj.mp hs).1
   exact r'.sep m j ys (.r xs) a hn hm (by rw[qBh hl]) rfl hσ h1
 unfold QX at ht
 split at ht
 ·rename_i xs hs
  obtain⟨v,h1,h2⟩:=r.val j _ hs
  obtain⟨a,vs,rfl,h3,h4⟩:=Is.tup_inv h2
  exact⟨.ref a,h1,a,rfl,.inr ⟨⟨vs,SqT.same r.ext.sub h3⟩,Of r c h3 h4 ht hp⟩⟩
 ·rename_i xs hs
  obtain⟨v,h1,h2⟩:=r.val j _ hs
  obtain⟨a,vs,rfl,h3,h4⟩:=Is.lst_inv h2
  exact⟨.ref a,h1,a,rfl,.inl ⟨⟨vs,r.ext.sub.seq h3⟩,FU r c (r.ext.sub.seq h3) h4 (E9 r h3) ht hp⟩⟩
 ·rename_i xs hs
  exact lists _ xs hs rfl ht
 ·rename_i xs hs
  exact lists _ xs hs rfl ht
 ·exact ht.elim⟩
def Ua (i:Nat)(te:TE3)(tb:TS3):TS3:=fun D3 τ=>te τ fun s=>match s with
 |.l xs=>EL i xs tb D3 τ
 |.d (.tup xs)=>EL i xs tb D3 τ
 |.d (.lst xs)=>EL i xs tb D3 τ
 |_=>False
theorem XN {i:Nat}{x:Str}{px:Pos}{body:List Stmt}{tb:TS3} (h:PS X (.For (.Name x px) e body [] pos) (Kg (SW X.K (FE X te)) (BL i) (FS X tb))) (hp:Bi X i:=by first|exact AZ rfl|exact A0 rfl ∅|assumption):PS3 X (.For (.Name x px) e body [] pos) (Ua i te tb):=⟨AF h fun D2 σ H hh=>by
 obtain⟨B,z,τ,D3,r,ht,c⟩:=hh
 refine⟨B,_,τ,_,r,ht,fun s v H1 e1 i1 f1 h1=>?_⟩
 split at h1
 ·rename_i xs
  obtain⟨a,vs,rfl,h3,h4⟩:=i1
  refine⟨a,rfl,.inl ⟨⟨vs,SqL.of h3⟩,FU (r.mono e1) c (SqL.of h3) h4 (fun m ys hm hσ=>?_) h1 hp⟩⟩
  obtain⟨ws,hw,_⟩:=r.own_list hm hσ
  have:=(f1 xs a rfl rfl).1
  rw[hw] at this
  cases this
 ·rename_i xs
  obtain⟨a,vs,rfl,h3,h4⟩:=Is.tup_inv i1
  exact⟨a,rfl,.inr ⟨⟨vs,SqT.same e1.sub h3⟩,Of (r.mono e1) c h3 h4 h1 hp⟩⟩
 ·rename_i xs
  obtain⟨a,vs,rfl,h3,h4⟩:=Is.lst_inv i1
  exact⟨a,rfl,.inl ⟨⟨vs,e1.sub.seq h3⟩,FU (r.mono e1) c (e1.sub.seq h3) h4 (E9 (r.mono e1) h3) h1 hp⟩⟩
 ·exact h1.elim⟩
def Xb (i:Nat)(t:TS3):TS3:=fun D3 τ=>match τ[i]? with
 |some (some (.l xs))=>t D3 (τ.set i (some (.d (.lst xs))))
 |_=>False
theorem WS {sts:List Stmt} (i:Nat) (h:C4 X sts t):C4 X sts (Xb i t):=⟨Bw h.out fun D2 σ H hh=>by
 obtain⟨B,z,τ,D3,r,ht,c⟩:=hh
 unfold Xb at ht
 split at ht
 ·rename_i xs hs
  obtain⟨z',r'⟩:=r.data hs
  exact⟨B,z',_,D3,r',ht,c⟩
 ·exact ht.elim⟩
def Vu (i:Nat)(lo st:Int)(cnt:Nat)(tb:TS3)(D3:Gr)(τ0:Tau):Prop:=∃I:Nat→Tau→Prop,I 0 τ0 ∧
 (∀(n:Nat) τ,n<cnt→I n τ→tb { D3 with nx:=I (n+1),ct:=I (n+1),bk:=D3.nx } (τ.set i (some (.d (.int (lo+n*st))))))∧∀τ,I cnt τ→D3.nx τ
def Ui (i:Nat)(ta:TA3)(tb:TS3):TS3:=fun D3 τ=>ta τ fun ss=>match ss with
 |[.d (.int j)]=>(-(2^62)≤j∧j<2^62)∧Vu i 0 1 j.toNat tb D3 τ
 |_=>False
theorem Ri {i:Nat}{x:Str}{px:Pos}{body:List Stmt}{tb:TS3}{ta:TA3} (h:PS X (.For (.Name x px) e body [] pos) (Kg (MD (FA X ta)) (BL i) (FS X tb))) (hp:Bi X i:=by first|exact AZ rfl|exact A0 rfl ∅|assumption):PS3 X (.For (.Name x px) e body [] pos) (Ui i ta tb):=⟨AF h fun D2 σ H hh=>by
 obtain⟨B,z,τ,D3,r,ht,c⟩:=hh
 refine⟨B,_,τ,_,r,ht,fun ss vs H1 e1 i1 h1=>?_⟩
 split at h1
 ·rename_i j
  obtain⟨v,rfl,hv⟩:=Ef i1
  cases Is.int_inv hv
  obtain⟨⟨q1,q2⟩,I,i0,turn,out⟩:=h1
  refine⟨j,rfl,q1,q2,EK (lo:=0) (n:=j.toNat) (g:=BL i) (tb:=FS X tb) (D:=D2) (fun n σ1 H1=>∃z1 τ1,Rep X B τ1 σ1 ⟨H1,z1⟩∧I n τ1) ⟨_,τ,r.mono e1,i0⟩ ?_ ?_⟩
  ·rintro n σ1 H1 hn ⟨z1,τ1,r1,i1⟩
   have tt:=turn n τ1 hn i1
   rw[qCh] at tt
   exact⟨B,_,_,_,r1.setd (.int _) hp,tt,c.inB r.leR fun τ' σ' p' r' h'=>⟨p'.z,τ',r',h'⟩⟩
  ·rintro σ1 H1 ⟨z1,τ1,r1,i1⟩
   exact c.nx _ _ _ r1 (out τ1 i1)
 ·exact h1.elim⟩
def VS (i:Nat)(ta:TA3)(tb:TS3):TS3:=fun D3 τ=>ta τ fun ss=>match ss with
 |[.d (.int a),.d (.int j)]=>(-(2^62)≤a∧a<2^62∧-(2^62)≤j∧j<2^62)∧Vu i a 1 (j-a).toNat tb D3 τ
 |_=>False
theorem W5 {i:Nat}{x:Str}{px:Pos}{body:List Stmt}{tb:TS3}{ta:TA3} (h:PS X (.For (.Name x px) e body [] pos) (Kg (Qi (FA X ta)) (BL i) (FS X tb))) (hp:Bi X i:=by first|exact AZ rfl|exact A0 rfl ∅|assumption):PS3 X (.For (.Name x px) e body [] pos) (VS i ta tb):=⟨AF h fun D2 σ H hh=>by
 obtain⟨B,z,τ,D3,r,ht,c⟩:=hh
 refine⟨B,_,τ,_,r,ht,fun ss vs H1 e1 i1 h1=>?_⟩
 split at h1
 ·rename_i a j
  obtain⟨v,u,rfl,hv,hu⟩:=MI i1
  cases Is.int_inv hv
  cases Is.int_inv hu
  obtain⟨q1,I,i0,turn,out⟩:=h1
  refine⟨a,j,rfl,q1,EK (lo:=a) (n:=(j-a).toNat) (g:=BL i) (tb:=FS X tb) (D:=D2) (fun n σ1 H1=>∃z1 τ1,Rep X B τ1 σ1 ⟨H1,z1⟩∧I n τ1) ⟨_,τ,r.mono e1,i0⟩ ?_ ?_⟩
  ·rintro n σ1 H1 hn ⟨z1,τ1,r1,i1⟩
   have tt:=turn n τ1 hn i1
   rw[qCh] at tt
   exact⟨B,_,_,_,r1.setd (.int _) hp,tt,c.inB r.leR fun τ' σ' p' r' h'=>⟨p'.z,τ',r',h'⟩⟩
  ·rintro σ1 H1 ⟨z1,τ1,r1,i1⟩
   exact c.nx _ _ _ r1 (out τ1 i1)
 ·exact h1.elim⟩
end
def B7 (N:List Str)(ss:List S):Tau:=ss.map some++List.replicate (N.length-ss.length) none
theorem GP {α:Type}{ss:List α}{m i:Nat}{s:α} (h:(ss.map some++List.replicate m (none:Option α))[i]? = some (some s)):ss[i]? = some s:=by
 by_cases hi:i<ss.length
 ·rw[qAI (by simpa using hi),qAl] at h
  cases e:ss[i]? with
  |none=>rw[e] at h;cases h
  |some a=>rw[e] at h;cases h;rfl
 ·rw[qAL (by simpa using hi),qBX] at h
  split at h<;>cases h
theorem CM {X:Cx}{p:HZ}{N:List Str}{vs:List V}{ss:List S} (h:Args X.K p vs ss) (hz:AU p.z p.h) (ht:AU X.H₀ p.h) (hl:X.lent=none:=by rfl):Rep X p (B7 N ss) (L2.start N vs) p:=by
 have no:∀(i:Nat)(xs:List D),¬(B7 N ss)[i]? = some (some (.l xs)):=fun i xs z=>by
  have z':=GP z
  have hi:=(qAj.mp z').1
  have hv:vs[i]? = some (vs[i]'(by rw[h.1];exact hi)):=qAc (by rw[h.1];exact hi)
  have:=(h.2 i _ _ hv z').2
  cases this
 refine⟨by unfold L2.start B7;simp[h.1],Ext.refl hz,fun i s hs=>?_,fun i xs a z _=>absurd z (no i xs),fun i j xs s a _ z _ _ _=>absurd z (no i xs),fun _=>ht,fun k a hk=>by rw[hl] at hk;cases hk⟩
 have z':=GP hs
 have hi:=(qAj.mp z').1
 have hl:i<vs.length:=by rw[h.1];exact hi
 have hv:vs[i]? = some vs[i]:=qAc hl
 refine⟨vs[i],?_,(h.2 i _ _ hv z').1⟩
 unfold L2.start
 rw[qAI (by simpa using hl),qAl,hv]
 rfl
section
variable {P:Program}{w:World}{K:PySem.W.Frag}{mg:Str→Option Value}{base:Heap}
theorem fn3 {x qual:Str}{st:Stmt}{f:Addr}{fd:FuncData}{N ps:List Str}{k:Nat}{sp:Sp3} (F:Fun K x qual st f fd) (Sc:Av N ps (Ae st)) (len:∀ss R U,sp ss R U→ss.length=ps.length)
 (hbody:∀(cdv:Value)(A:Around)(outer:List Env)(s:Shared)(H:Hp)(E:XK)(ss:List S)(R:S→Prop)(U:Str→Prop),Be k (A.deeper (envOfC qual (Ae st) s.heap.objs.size f cdv))→sp ss R U →
  ∃t,C4 (Fn CX0 P w K mg base N qual (Ae st) f cdv A outer s H E).nox (A4 st) t∧t { nx:=fun _=>R (.d .non),rt:=R } (B7 N ss)):AJ P w K mg base CX0 (k+1) f fd ps (An K mg sp):=by
 refine F.ok Sc (fun vs H Q E hh=>by obtain⟨z,ss,R,U,hz,ha,h3,_⟩:=hh;exact ha.1.trans (len ss R U h3)) fun cdv A outer s H vs Q E hr hh9=>?_
 obtain⟨z,ss,R,U,hz,ha,h3,q,qe⟩:=hh9
 obtain⟨t,ht,hq⟩:=hbody cdv A outer s H E ss R U hr h3
 exact⟨_,ht.out,⟨H,z⟩,z,B7 N ss,_,CM ha hz (AU.refl H),hq,⟨fun τ σ p r h=>q (.d .non) _ p r.ext Is.non Bp h,fun _ _ _ _ z=>z.elim,fun _ _ _ _ z=>z.elim,fun s v p e i f h=>q s v p e i f h⟩⟩
end
def ID:Sp3:=fun ss R _=>∃ns:List Int,ss=[.r (ns.map D.int)]∧ns.length≤63∧R (.d (.bl true))
theorem DH {K:PySem.W.Frag}{H:Hp} (ns:List Int):Iss K H (ns.map V.int) (ns.map D.int):=by
 refine⟨by simp,fun i v x h1 h2=>?_⟩
 rw[qAl] at h1 h2
 cases e:ns[i]? with
 |none=>rw[e] at h1;cases h1
 |some n =>
  rw[e] at h1 h2
  cases h1
  cases h2
  exact .int n
end L3
namespace L3
open PySem PySem.Spec PyProof.Rows L2
def Itc (lo c:Int)(n:Nat):It:=⟨fun i _=>i<n,fun i H x H'=>H'=H∧x=.int (lo+i*c),fun i _=>n≤i⟩
theorem H8 {P:Program}{w:World}{K:PySem.W.Frag}{tg:Expr} (it:Addr) (lo c:Int) (n:Nat):MM P w K tg (Itc lo c n) [it] it (fun i h=>IsRangeIter h it (lo+(i:Nat)*c) ((n:Int)-(i:Nat)) c) where
 mem:=by simp
 obj:=fun i h st b hb=>by
  have e:b=it:=by simpa using hb
  subst e
  exact⟨_,st,fun v z=>by
   have z':Data.fields _=Data.cell v:=z
   cases z'⟩
 keep:=fun i h h' st k=>k it (by simp) _ st
 item:=by
  intro X hP hw hK hc i pins s σ H E I hf st hg
  subst hP hw hK
  obtain⟨f0,f1,f2,f3,f4,f5⟩:=hf it (by simp)
  have W:=Walks.range (prog:=X.prog) (w:=X.w) (I.ok.hd hc) it lo c n
  refine W.item i s _ _ hg st fun v h' tk hv st' kk=>?_
  obtain⟨t,rfl⟩:=hv
  have I1:Inv X pins σ H { s with heap:=h',toks:=tk }:=I.turned (fun b o hb e=>kk b o (by simpa using hb) e) f0 f1 f3 f4 f5
  exact⟨_,rfl,LD (s:={ s with heap:=h',toks:=tk }) (n:="range_iterator") st' rfl rfl ∅ ⟨.int (lo+i*c),H,I1,⟨t,rfl⟩,⟨rfl,rfl⟩,st',fun b hb=>(hf b hb).1⟩⟩
 done:=by
  intro X hP hw hK hc i pins s σ H E I hf st hg
  subst hP hw hK
  obtain⟨f0,f1,f2,f3,f4,f5⟩:=hf it (by simp)
  exact wpAny_pyNext_range_end (I.ok.hd hc) st (by have:n≤i:=hg;omega) fun h' eb=>⟨rfl,I.turned (t':=s.toks) (fun b o hb e=>eb b o hb e) f0 f1 f3 f4 f5⟩
 self:=fun _ _ _ _ _ st h=>wpAny_pyIter_rangeiter st h
section
variable {X:Cx}{tg:Expr}
def PH (ta:TA):TI:=fun σ H R=>ta σ H fun vs H1=>∃i j c:Int,vs=[.int i,.int j,.int c]∧(c≠0∧c.natAbs<1073741824∧Builtin.Range.small i j c=true∧0≤Builtin.Range.rangeSize i j c)∧R (Itc i c (Builtin.Range.rangeSize i j c).toNat) H1
theorem Q0 {a b d:Expr}{ta:TA}{p pos:Pos} (hg:Gl X "range") (hm:X.mg "range"=none) (ha:PA X [a,b,d] ta) (hs:starEach [a,b,d] X.env=[(false,eval a X.env),(false,eval b X.env),(false,eval d X.env)]:=by rfl) (hs2:starEach [b,d] X.env=[(false,eval b X.env),(false,eval d X.env)]:=by rfl) :
 PI X tg (.Call (.Name "range" p) [a,b,d] [] pos) (PH ta):=by
 intro pins s σ H R I h
 refine Call_ (B6 I hg hm boot_range (qAX (thn (ha pos pins s σ H _ I h) fun us s1 ⟨vs,H1,I1,r1,q1⟩=>?_) (by rw[hs,hs2]) (by rw[hs2];rfl)))
 obtain⟨i,j,c,e,⟨q1,q2,q3,q4⟩,q⟩:=q1
 subst e
 cases r1 with
 |cons r rr =>
  cases rr with
  |cons r' rr =>
   cases rr with
   |cons r'' rr =>
    cases rr
    obtain⟨t,rfl⟩:=r
    obtain⟨t',rfl⟩:=r'
    obtain⟨t'',rfl⟩:=r''
    refine call_range_3 q1 ?_ (.inl (PyProof.noPylong_small q2))
    refine wpAny_pyIter_range (IsRange.new ..) q3 ?_
    have I2:Inv X pins σ H1 { s1 with heap:=s1.heap.push { cls:=.type "range",data:=.fields #[.int i t,.int j t',.int c t''] },toks:=s1.toks }:=I1.kept fun b o e=>qAb _ e
    refine⟨_,[(s1.heap.push { cls:=.type "range",data:=.fields #[.int i t,.int j t',.int c t''] }).objs.size],_,_,H1,rfl,I2.kept (t':=s1.toks) fun b o e=>qAb _ e,H8 _ i c (Builtin.Range.rangeSize i j c).toNat,?_,fun b hb=>?_,q⟩
    ·have e1:i+((0:Nat):Int)*c=i:=by simp
     have e2:(((Builtin.Range.rangeSize i j c).toNat:Nat):Int)-((0:Nat):Int)=Builtin.Range.rangeSize i j c:=()
     show IsRangeIter _ _ (i+((0:Nat):Int)*c) ((((Builtin.Range.rangeSize i j c).toNat:Nat):Int)-((0:Nat):Int)) c
     rw[e1,e2]
     exact qAm _ rfl
    ·have e:b=(s1.heap.push { cls:=.type "range",data:=.fields #[.int i t,.int j t',.int c t''] }).objs.size:=by simpa using hb
     subst e
     exact I2.fpOk (qAg _) (I2.hok.fresh (qAg _))
theorem JB {lo c:Int}{n:Nat}{g:TG}{tb:TS}{D:GI}{σ:St}{H:Hp} (Pv:Nat→St→Hp→Prop) (h0:Pv 0 σ H)
 (hs:∀i σ H,i<n→Pv i σ H→g (.int (lo+i*c)) σ H fun σ2 H2=>tb { D with nx:=Pv (i+1),ct:=Pv (i+1),bk:=D.nx } σ2 H2) (hd:∀σ H,Pv n σ H→D.nx σ H) :
 ∃W:Nat→Nat→St→Hp→Prop,(∃m,W 0 m σ H)∧∀i m σ H,W i m σ H →
  ((Itc lo c n).stop i H∧D.nx σ H)∨((Itc lo c n).go i H∧∃N:St→Hp→Prop,(∀σ' H',N σ' H'→∃m',m'<m∧W (i+1) m' σ' H')∧∀x H',(Itc lo c n).yld i H x H'→g x σ H' fun σ2 H2=>tb { D with nx:=N,ct:=N,bk:=D.nx } σ2 H2):=by
 refine⟨fun i m σ H=>m=n-i∧i≤n∧Pv i σ H,⟨n,by simp,qAw _,h0⟩,?_⟩
 rintro i m σ H ⟨rfl,hi,p⟩
 by_cases hlt:i<n
 ·refine .inr ⟨hlt,Pv (i+1),fun σ' H' p'=>⟨n-(i+1),(),rfl,hlt,p'⟩,fun x H' y=>?_⟩
  obtain⟨e,y⟩:=y
  subst e y
  exact hs i σ _ hlt p
 ·have e:i=n:=()
  subst e
  exact .inl ⟨qAg _,hd σ H p⟩
theorem RL {K:PySem.W.Frag}{H:HZ}{vs:List V}{s t r:S} (h:Args K H vs [s,t,r]):∃v u w,vs=[v,u,w]∧IsS K H v s∧IsS K H u t∧IsS K H w r:=by
 obtain⟨hl,hv⟩:=h
 obtain⟨v,u,w,rfl⟩:=Y8 hl
 exact⟨v,u,w,rfl,(hv 0 v s rfl rfl).1,(hv 1 u t rfl rfl).1,(hv 2 w r rfl rfl).1⟩
variable {e:Expr}{pos:Pos}
def Ur (i:Nat)(ta:TA3)(tb:TS3):TS3:=fun D3 τ=>ta τ fun ss=>match ss with
 |[.d (.int a),.d (.int b),.d (.int c)]=>(c≠0∧c.natAbs<1073741824∧Builtin.Range.small a b c=true∧0≤Builtin.Range.rangeSize a b c)∧Vu i a c (Builtin.Range.rangeSize a b c).toNat tb D3 τ
 |_=>False
theorem Wo {i:Nat}{x:Str}{px:Pos}{body:List Stmt}{tb:TS3}{ta:TA3} (h:PS X (.For (.Name x px) e body [] pos) (Kg (PH (FA X ta)) (BL i) (FS X tb))) (hp:Bi X i:=by first|exact AZ rfl|exact A0 rfl ∅|assumption):PS3 X (.For (.Name x px) e body [] pos) (Ur i ta tb):=⟨AF h fun D2 σ H hh=>by
 obtain⟨B,z,τ,D3,r,ht,c⟩:=hh
 refine⟨B,_,τ,_,r,ht,fun ss vs H1 e1 i1 h1=>?_⟩
 split at h1
 ·rename_i a b st
  obtain⟨v,u,w,rfl,hv,hu,hw⟩:=RL i1
  cases Is.int_inv hv
  cases Is.int_inv hu
  cases Is.int_inv hw
  obtain⟨hq,I,i0,turn,out⟩:=h1
  refine⟨a,b,st,rfl,hq,JB (lo:=a) (c:=st) (n:=(Builtin.Range.rangeSize a b st).toNat) (g:=BL i) (tb:=FS X tb) (D:=D2) (fun n σ1 H1=>∃z1 τ1,Rep X B τ1 σ1 ⟨H1,z1⟩∧I n τ1) ⟨_,τ,r.mono e1,i0⟩ ?_ ?_⟩
  ·rintro n σ1 H1 hn ⟨z1,τ1,r1,i1⟩
   exact⟨B,_,_,_,r1.setd (.int _) hp,turn n τ1 hn i1,c.inB r.leR fun τ' σ' p' r' h'=>⟨p'.z,τ',r',h'⟩⟩
  ·rintro σ1 H1 ⟨z1,τ1,r1,i1⟩
   exact c.nx _ _ _ r1 (out τ1 i1)
 ·exact h1.elim⟩
end
end L3
namespace L3
open PySem PySem.Spec PyProof.Rows L2
def Io:D→Bool
 |.non=>true
 |.bl _=>true
 |.int _=>true
 |.str _=>true
 |_=>false
def Bl:Nat→D→Bool
 |0,x=>Io x
 |n+1,.tup xs=>xs.all (Bl n)
 |_+1,x=>Io x
def eqF:D→D→Bool
 |.non,.non=>true
 |.bl a,.bl b=>a==b
 |.bl a,.int b=>(if a then 1 else 0)==b
 |.int a,.bl b=>a==(if b then 1 else 0)
 |.int a,.int b=>a==b
 |.str a,.str b=>a==b
 |_,_=>false
def eqN:Nat→D→D→Bool
 |0,x,y=>eqF x y
 |n+1,.tup xs,.tup ys=>(xs.zip ys).all (fun p=>eqN n p.1 p.2)&&xs.length==ys.length
 |_+1,.tup _,_=>false
 |_+1,_,.tup _=>false
 |_+1,x,y=>eqF x y
theorem Gs:∀(n:Nat)(x:D),Bl n x=true→eqN n x x=true
 |0,x,h=>by cases x<;>first|rfl|(exact beq_self_eq_true _)|cases h
 |n+1,x,h=>by
  cases x with
  |tup xs =>
   have h':xs.all (Bl n)=true:=h
   show((xs.zip xs).all (fun p=>eqN n p.1 p.2)&&xs.length==xs.length)=true
   rw[beq_self_eq_true,qCO,qAp]
   rintro⟨a,b⟩ hp
   obtain⟨i,hi⟩:=qBo hp
   rw[qAN] at hi
   obtain⟨h1,h2⟩:=hi
   have e:a=b:=qAn (h1.symm.trans h2)
   subst e
   exact Gs n a (qAp.mp h' a (qAy h1))
  |_=>first|rfl|(exact beq_self_eq_true _)|cases h
theorem Is.flatV {K:PySem.W.Frag}{H:Hp}{v:V}{x:D} (h:Is K H v x) (f:Io x=true):flatV v=true:=by
 cases h<;>first|rfl|cases f
theorem RD {K:PySem.W.Frag}{H:Hp}{v u:V}{x y:D} (h:Is K H v x) (h':Is K H u y) (f:Io x=true) (f':Io y=true):eqV v u=eqF x y:=by
 cases h<;>first|(cases f;done)|(cases h'<;>first|(cases f';done)|rfl)
theorem Bg {its:List Value}{j:Nat} (h:j<its.toArray.size){u:Value} (e:its[j]? = some u):its.toArray[j]=u:=by
 have hj:j<its.length:=by simpa using h
 rw[qAc hj] at e
 have e':=qAn e
 rw[←e']
 simp
section
variable {X:Cx}{pins:List (Addr×Obj)}{σ:St}{H:Hp}{s:Shared}
theorem N7 (I:Inv X pins σ H s):∀(n:Nat){v:V}{x y:D},Bl n x=true→Bl n y=true→Is X.K H v x→Is X.K H v y→x=y
 |0,v,x,y,fx,fy,hx,hy=>by
  cases hx<;>first|(cases fx;done)|(cases hy<;>first|rfl|(cases fy;done))
 |n+1,v,x,y,fx,fy,hx,hy=>by
  cases hx with
  |@tup a vs xs h hl r =>
   cases hy with
   |@tup _ ws ys h2 hl2 r2 =>
    have e:=I.tuple_inj h h2
    subst e
    congr 1
    apply qA1
    intro i
    cases hv:vs[i]? with
    |none =>
     have hi:=qAs.mp hv
     rw[qAs.mpr (),qAs.mpr ()]
    |some v =>
     have hi:=(qAj.mp hv).1
     have hx:xs[i]? = some (xs[i]' ()):=qAc ()
     have hy:ys[i]? = some (ys[i]' ()):=qAc ()
     rw[hx,hy]
     congr 1
     exact N7 I n (qAp.mp (show xs.all (Bl n)=true from fx) _ (qAy hx)) (qAp.mp (show ys.all (Bl n)=true from fy) _ (qAy hy)) (r i v _ hv hx) (r2 i v _ hv hy)
   |lst=>cases fy
   |ref=>cases fy
   |obj=>cases fy
   |dic=>cases fy
  |lst=>cases fx
  |ref=>cases fx
  |obj=>cases fx
  |dic=>cases fx
  |ty=>cases fx
  |_=>cases hy<;>first|rfl|(cases fy;done)
theorem G4 (I:Inv X pins σ H s){n:Nat}{A:Around}{a b:Addr}{vs ws:List V}{xs ys:List D} (ha:SqT X.K H a vs) (hb:SqT X.K H b ws) (hx:Iss X.K H vs xs) (hy:Iss X.K H ws ys) (hu:A.units<cLine)
 (ih:∀(x y:D)(v u:V)(v' u':Value),x∈xs→y∈ys→Is X.K H v x→Is X.K H u y→AN v v'→AN u u'→SeqAt.EqAt A.in1 s v' u' (eqN n x y)):SeqAt.RcAt A s (.ref a) (.ref b) (eqN (n+1) (.tup xs) (.tup ys)):=by
 obtain⟨its,r1,p1,_⟩:=I.tuple ha
 obtain⟨its2,r2,p2,_⟩:=I.tuple hb
 have l1:=r1.length
 have l2:=r2.length
 have k1:=hx.1
 have k2:=hy.1
 have key:=SeqAt.RcAt.tuples (A:=A) (s:=s) (l:=a) (b:=b) (items:=its.toArray) (items2:=its2.toArray) (e:=fun j=>match xs[j]?,ys[j]? with|some x,some y=>eqN n x y|_,_=>true) p1 p2 hu (fun j h1 h2=>by
  have h1':j<its.length:=by simpa using h1
  have h2':j<its2.length:=by simpa using h2
  have gx:xs[j]? = some (xs[j]' ()):=qAc ()
  have gy:ys[j]? = some (ys[j]' ()):=qAc ()
  have gv:vs[j]? = some (vs[j]' ()):=qAc ()
  have gw:ws[j]? = some (ws[j]' ()):=qAc ()
  obtain⟨u1,e1,q1⟩:=r1.get gv
  obtain⟨u2,e2,q2⟩:=r2.get gw
  rw[Bg h1 e1,Bg h2 e2]
  rw[gx,gy]
  exact ih _ _ _ _ _ _ (qAy gx) (qAy gy) (hx.2 j _ _ gv gx) (hy.2 j _ _ gw gy) q1 q2)
 have e:eqN (n+1) (.tup xs) (.tup ys)=((List.range (min its.toArray.size its2.toArray.size)).all (fun j=>match xs[j]?,ys[j]? with|some x,some y=>eqN n x y|_,_=>true)&&its.toArray.size==its2.toArray.size):=by
  show((xs.zip ys).all (fun p=>eqN n p.1 p.2)&&xs.length==ys.length)=_
  have s1:its.toArray.size=xs.length:=by simp;omega
  have s2:its2.toArray.size=ys.length:=by simp;omega
  rw[s1,s2]
  congr 1
  rw[qAW,qAp,qAp]
  constructor
  ·intro h j hj
   rw[qAV] at hj
   have gx:xs[j]? = some (xs[j]' ()):=qAc ()
   have gy:ys[j]? = some (ys[j]' ()):=qAc ()
   rw[gx,gy]
   exact h (_,_) (qAy (qAN.mpr ⟨gx,gy⟩))
  ·rintro h ⟨x,y⟩ hp
   obtain⟨j,hj⟩:=qBo hp
   obtain⟨gx,gy⟩:=qAN.mp hj
   have h1:=(qAj.mp gx).1
   have h2:=(qAj.mp gy).1
   have:=h j (by rw[qAV];omega)
   simp only[] at gx gy
   rw[gx,gy] at this
   exact this
 rw[e]
 exact key
theorem GR (I:Inv X pins σ H s):∀(n:Nat)(A:Around)(x y:D)(v u:V)(v' u':Value),A.units+n<cLine→Bl n x=true→Bl n y=true→Is X.K H v x→Is X.K H u y→AN v v'→AN u u'→SeqAt.EqAt A s v' u' (eqN n x y)
 |0,A,x,y,v,u,v',u',_,fx,fy,hx,hy,rv,ru=>by
  show SeqAt.EqAt A s v' u' (eqF x y)
  rw[←RD hx hy fx fy]
  exact LZ rv ru (hx.flatV fx) (hy.flatV fy)
 |n+1,A,x,y,v,u,v',u',hu,fx,fy,hx,hy,rv,ru=>by
  have flat:Io x=true→Io y=true→eqN (n+1) x y=eqF x y→SeqAt.EqAt A s v' u' (eqN (n+1) x y):=fun f1 f2 e=>by
   rw[e,←RD hx hy f1 f2]
   exact LZ rv ru (hx.flatV f1) (hy.flatV f2)
  have hu0:A.units<cLine:=()
  cases hx with
  |@tup a vs xs ha hl r =>
   cases rv
   obtain⟨its,r1,p1,_⟩:=I.tuple ha
   have t1:s.heap.IsTuple a its.toArray:=p1
   cases hy with
   |@tup b ws ys hb hl2 r2 =>
    cases ru
    by_cases hab:a=b
    ·subst hab
     have e:=N7 I (n+1) fx fy (.tup ha hl r) (.tup hb hl2 r2)
     rw[e,Gs (n+1) _ fy]
     exact SeqAt.EqAt.same _
    ·refine SeqAt.EqAt.of_refs hab (G4 I ha hb ⟨hl,r⟩ ⟨hl2,r2⟩ hu0 fun x y v u v' u' mx my ix iy rv ru=>?_)
     exact GR I n A.in1 x y v u v' u' (by show A.units+1+n<cLine;omega) (qAp.mp (show xs.all (Bl n)=true from fx) x mx) (qAp.mp (show ys.all (Bl n)=true from fy) y my) ix iy rv ru
   |non=>cases ru;exact SeqAt.EqAt.tuple_none t1 hu0
   |bl c=>cases ru;exact SeqAt.EqAt.tuple_bool c t1 hu0
   |int c=>obtain⟨t,rfl⟩:=ru;exact SeqAt.EqAt.tuple_int c t t1 hu0
   |str c=>obtain⟨t,rfl⟩:=ru;exact SeqAt.EqAt.tuple_str c t t1 hu0
   |ty c=>cases fy
   |lst=>cases fy
   |ref=>cases fy
   |obj=>cases fy
   |dic=>cases fy
  |non =>
   cases hy with
   |@tup b ws ys hb hl2 r2 =>
    cases ru;cases rv
    obtain⟨its,r1,p1,_⟩:=I.tuple hb
    exact SeqAt.EqAt.none_tuple (show s.heap.IsTuple b its.toArray from p1) hu0
   |ty c=>cases fy
   |lst=>cases fy
   |ref=>cases fy
   |obj=>cases fy
   |dic=>cases fy
   |_=>exact flat rfl rfl rfl
  |bl c =>
   cases hy with
   |@tup b ws ys hb hl2 r2 =>
    cases ru;cases rv
    obtain⟨its,r1,p1,_⟩:=I.tuple hb
    exact SeqAt.EqAt.bool_tuple c (show s.heap.IsTuple b its.toArray from p1) hu0
   |ty c=>cases fy
   |lst=>cases fy
   |ref=>cases fy
   |obj=>cases fy
   |dic=>cases fy
   |_=>exact flat rfl rfl rfl
  |int c =>
   cases hy with
   |@tup b ws ys hb hl2 r2 =>
    obtain⟨t,rfl⟩:=rv;cases ru
    obtain⟨its,r1,p1,_⟩:=I.tuple hb
    exact SeqAt.EqAt.int_tuple c t (show s.heap.IsTuple b its.toArray from p1) hu0
   |ty c=>cases fy
   |lst=>cases fy
   |ref=>cases fy
   |obj=>cases fy
   |dic=>cases fy
   |_=>exact flat rfl rfl rfl
  |str c =>
   cases hy with
   |@tup b ws ys hb hl2 r2 =>
    obtain⟨t,rfl⟩:=rv;cases ru
    obtain⟨its,r1,p1,_⟩:=I.tuple hb
    exact SeqAt.EqAt.str_tuple c t (show s.heap.IsTuple b its.toArray from p1) hu0
   |ty c=>cases fy
   |lst=>cases fy
   |ref=>cases fy
   |obj=>cases fy
   |dic=>cases fy
   |_=>exact flat rfl rfl rfl
  |ty c=>cases fx
  |lst=>cases fx
  |ref=>cases fx
  |obj=>cases fx
  |dic=>cases fx
def WX (n:Nat):R3:=fun dx dy R=>match dx,dy with
 |.tup xs,.tup ys=>Bl n (.tup xs)=true∧Bl n (.tup ys)=true∧R (.bl (eqN n (.tup xs) (.tup ys)))
 |_,_=>False
theorem YV (n:Nat)(hu:X.A.units+n<cLine):Dx X (compareOp .Eq) (WX n):=by
 intro pins s σ H x y v u Q I rx ry h
 obtain⟨z,dx,dy,R,hz,hx,hy,h3,q⟩:=h
 replace hx:=hx.mono hz
 replace hy:=hy.mono hz
 unfold WX at h3
 split at h3
 ·rename_i xs ys
  obtain⟨fx,fy,h3⟩:=h3
  cases n with
  |zero=>cases fx
  |succ n =>
   obtain⟨a,vs,rfl,ha,ia⟩:=Is.tup_inv hx
   obtain⟨b,ws,rfl,hb,ib⟩:=Is.tup_inv hy
   cases rx
   cases ry
   refine G4 (A:=X.A) (n:=n) I ha hb ia ib () (fun x y v u v' u' mx my ix iy rv ru=>?_) X.prog X.w X.xe _ ⟨.bl _,H,I,rfl,q _ _ ⟨H,z⟩ (Ext.refl hz) (.bl _) h3⟩
   exact GR I n X.A.in1 x y v u v' u' (by show X.A.units+1+n<cLine;omega) (qAp.mp (show xs.all (Bl n)=true from fx) x mx) (qAp.mp (show ys.all (Bl n)=true from fy) y my) ix iy rv ru
 ·exact h3.elim
end
end L3
namespace L3
open PySem PySem.Spec PyProof.Rows L2
theorem Bj.there {P:Program}{w:World}{H:Hp}{h:Heap}{a:Addr}{o:HO} (x:Bj P w H h a o):∃u,h.get? a=some u:=by
 cases o with
 |lst xs=>obtain⟨_,_,_,_,e⟩:=x;exact⟨_,e⟩
 |tup xs=>obtain⟨_,_,_,_,e,_⟩:=x;exact⟨_,e⟩
 |dK kvs=>obtain⟨_,_,_,_,o,_,_,e,_⟩:=x;exact⟨_,e⟩
 |dT kvs=>obtain⟨_,_,_,_,o,_,_,e,_⟩:=x;exact⟨_,e⟩
 |set S n=>obtain⟨o,_,_,_,e,_⟩:=x;exact⟨_,e⟩
 |ins C dx fs=>obtain⟨_,_,_,e,_⟩:=x;exact⟨_,e⟩
 |own y=>obtain⟨_,e⟩:=x;exact⟨_,e⟩
 |xd fs=>obtain⟨_,⟨_,_,_,e,_⟩,_⟩:=x;exact⟨_,e⟩
 |rng lo hi=>obtain⟨_,_,_,e⟩:=x;exact⟨_,e⟩
 |frz ob u=>obtain⟨e,_⟩:=x;exact⟨_,e⟩
 |tbl ps=>obtain⟨_,e,_⟩:=x;exact⟨_,e⟩
 |met f y=>exact⟨_,show h.get? a=some _ from x⟩
 |ext φ=>obtain⟨_,⟨_,e⟩,_⟩:=x;exact⟨_,e⟩
structure Fly (P:Program)(w:World)(l:List Env)(H H':Hp)(h h':Heap)(ea C:Addr)(a0:Value)(B:Heap):Prop where
 fl:Heap.FlyingW B l ea (.ref C) a0 h'
 un:Un (frs l) [] H H' h h'
 hok:HOk P w H' h'
 kb:∀b o,h.get? b=some o→H b=none→b∉frs l→B.get? b=some o
 tr:∀b o,H' b=some o→∃ob,B.get? b=some ob
 old:∀b o,h.get? b=some o→b∉frs l→∃ob,B.get? b=some ob
section
variable {P:Program}{w:World}{l:List Env}{H H':Hp}{h h' h'':Heap}{ea C:Addr}{a0:Value}{B:Heap}
theorem Fly.stays (f:Fly P w l H H' h h' ea C a0 B){b:Addr}{o:Obj} (e:B.get? b=some o):h'.get? b=some o:=f.fl.1 b o e
theorem Eh {l:List Env}{b:Addr}{B h:Heap} (F:h.FunFrames B l) (hb:b∈frs l):∃o,h.get? b=some o∧∀vs,o.data≠.fields vs:=(F.mem hb).2
theorem Qm {H':Hp}{h' h'':Heap}{B:Heap} (ok:HOk P w H' h') (tr:∀b o,H' b=some o→∃ob,B.get? b=some ob) (s1:B.StaysIn h') (s2:B.StaysIn h''):HOk P w H' h'':=fun a o e=>by
 refine(ok a o e).stay (fun b u hb q=>?_) (fun _ q=>q) fun _ _ q=>q
 have hB:∃ob,B.get? b=some ob:=by
  rcases hb with rfl|hb
  ·exact tr _ _ e
  ·exact tr _ _ hb
 obtain⟨ob,eb⟩:=hB
 have:=s1 b ob eb
 rw[q] at this
 cases this
 exact s2 b _ eb
theorem Fly.to (f:Fly P w l H H' h h' ea C a0 B)(fl:Heap.FlyingW B l ea (.ref C) a0 h'')(u:h'.UpToSlots h''):Fly P w l H H' h h'' ea C a0 B where
 fl:=fl
 un:=by
  refine⟨fun b o e n hb _=>fl.1 b o (f.kb b o e n hb),fun b o e n hb hx=>?_,f.un.free,fun b o e hx=>?_,f.un.tups,f.un.frzs,f.un.tbls⟩
  ·obtain⟨sl,e1⟩:=f.un.slot b o e n hb hx
   obtain⟨o2,e2,d⟩:=Eh f.fl.2.2.1 hb
   rw[e1] at e2
   cases e2
   obtain⟨sl2,e3⟩:=u b _ e1 d
   exact⟨sl2,e3⟩
  ·by_cases hb:b∈frs l
   ·obtain⟨o2,e2,d⟩:=Eh f.fl.2.2.1 hb
    obtain⟨sl2,e3⟩:=u b _ e2 d
    exact⟨_,e3⟩
   ·obtain⟨ob,eb⟩:=f.old b o e hb
    exact⟨ob,fl.1 b ob eb⟩
 hok:=Qm f.hok f.tr f.fl.1 fl.1
 kb:=f.kb
 tr:=f.tr
 old:=f.old
end
def CXU (P:Program)(w:World):CXT:=fun outer H s E e s'=>∃(ea C:Addr)(a0:Value)(B:Heap)(H':Hp),e=.ref ea∧s'.os=s.os∧AllBare s'.gens∧Fly P w outer H H' s.heap s'.heap ea C a0 B∧E (.ref C) none H'
theorem Cf {env:Env}{l:List Env}{L:Addr} (h:env.frame=some L):frs (env::l)=L::frs l:=by
 unfold frs
 rw[qBJ,h]
section
variable {X:Cx}{pins:List (Addr×Obj)}{σ:St}{H H':Hp}{s s':Shared}{ea C:Addr}{a0:Value}{B:Heap}{h1:Heap}{vs:List Value}
theorem Qg (I:Inv X pins σ H s)(hst:X.stack=X.env::X.outer)(hf:X.env.frame=some X.env.locals)(hex:X.ex=[])(hx:Heap.MadeExcOf s.heap h1 ea (.ref C) vs){Q:Unit→Shared→Prop}{E:Value→Shared→Prop}
 (hQ:∀(h':Heap)(t:Addr)(B:Heap),Fly X.prog X.w X.outer X.H₀ H X.s₀.heap h' ea C (.ref t) B→Q Unit.unit { s with heap:=h' }) :
 wpAny (model X.prog X.w) X.A (leaving X.env (.ref ea)) Q E { s with heap:=h1 }:=by
 have hfr:X.A.frames=some (X.env::X.outer):=by rw[←hst];exact I.ok.frames
 have hstk:=I.stack
 rw[hst] at hstk
 have hin:∀env∈(X.env::X.outer),∀b,env.frame=some b→b∈frs (X.env::X.outer):=fun env he b hb=>qBd.mpr ⟨env,he,hb⟩
 have hB:∀b o,s.heap.get? b=some o→b∉frs (X.env::X.outer)→(PySem.W.hideAll s.heap (frs (X.env::X.outer))).get? b=some o:=fun b o e hb=>PySem.W.hideAll_get _ e hb
 have ho:∀b o,(PySem.W.hideAll s.heap (frs (X.env::X.outer))).get? b=some o→s.heap.get? b=some o:=fun b o e=>PySem.W.of_hideAll _ e
 refine wpAny_leaves_madeW (base:=PySem.W.hideAll s.heap (frs (X.env::X.outer))) (h:=s.heap) (s:={ s with heap:=h1 }) hfr hf ho (PySem.W.funFrames_hide hstk hin) hx fun h' t fl _ _ up=>?_
 refine hQ h' t (PySem.W.hideAll s.heap (frs (X.env::X.outer))) ?_
 have up0:s.heap.UpToSlots h':=(Heap.UpToSlots.of_keeps hx.keeps).trans up
 have old:∀b o,X.s₀.heap.get? b=some o→b∉frs X.outer→b∉frs (X.env::X.outer):=fun b o e hb hm=>by
  rw[Cf hf] at hm
  rcases qAq.mp hm with rfl|hm
  ·exact absurd (qAr (qAh e) I.ok.above) (qA3 _)
  ·exact hb hm
 have nex:∀b:Addr,b∉X.ex:=fun b z=>by rw[hex] at z;cases z
 have tfr:∀b o,H b=some o→b∉frs (X.env::X.outer):=fun b o e hm=>by
  have:=I.stkFree b (by rw[hst];exact hm)
  rw[e] at this
  cases this
 have tr:∀b o,H b=some o→∃ob,(PySem.W.hideAll s.heap (frs (X.env::X.outer))).get? b=some ob:=fun b o e=>by
  obtain⟨u,eu⟩:=Bj.there (I.hok b o e)
  exact⟨u,hB b u eu (tfr b o e)⟩
 refine⟨fl,⟨fun b o e n hb _=>?_,fun b o e n hb _=>?_,fun b o e n _=>I.base.free b o e n (nex b),fun b o e _=>?_,I.base.tups,I.base.frzs,I.base.tbls⟩,Qm I.hok tr ho fl.1,fun b o e n hb=>?_,tr,fun b o e hb=>?_⟩
 ·exact fl.1 b o (hB b o (I.base.keep b o e n hb (nex b)) (old b o e hb))
 ·obtain⟨sl,e1⟩:=I.base.slot b o e n hb (nex b)
  obtain⟨o2,e2,d⟩:=Eh hstk (by rw[Cf hf];exact qAi _ hb)
  rw[e1] at e2
  cases e2
  obtain⟨sl2,e3⟩:=up0 b _ e1 d
  exact⟨sl2,e3⟩
 ·obtain⟨o1,e1⟩:=I.base.there b o e (nex b)
  by_cases hb:b∈frs X.outer
  ·obtain⟨o2,e2,d⟩:=Eh hstk (by rw[Cf hf];exact qAi _ hb)
   obtain⟨sl2,e3⟩:=up0 b _ e2 d
   exact⟨_,e3⟩
  ·exact⟨o1,fl.1 b o1 (hB b o1 e1 (old b o e hb))⟩
 ·exact hB b o (I.base.keep b o e n hb (nex b)) (old b o e hb)
 ·obtain⟨o1,e1⟩:=I.base.there b o e (nex b)
  exact⟨o1,hB b o1 e1 (old b o e hb)⟩
theorem SD (I:Inv X pins σ H s)(hst:X.stack=X.env::X.outer)(hf:X.env.frame=some X.env.locals)(hex:X.ex=[])(f:Fly X.prog X.w X.stack H H' s.heap s'.heap ea C a0 B){Q:Unit→Shared→Prop}{E:Value→Shared→Prop}
 (hQ:∀h':Heap,Fly X.prog X.w X.outer X.H₀ H' X.s₀.heap h' ea C a0 B→Q Unit.unit { s' with heap:=h' }):wpAny (model X.prog X.w) X.A (leaving X.env (.ref ea)) Q E s':=by
 have hfr:X.A.frames=some (X.env::X.outer):=by rw[←hst];exact I.ok.frames
 rw[hst] at f
 refine wpAny_leaves_onW hfr hf f.fl fun h' fl up=>hQ h' ?_
 have old:∀b o,X.s₀.heap.get? b=some o→b∉frs X.outer→b∉frs (X.env::X.outer):=fun b o e hb hm=>by
  rw[Cf hf] at hm
  rcases qAq.mp hm with rfl|hm
  ·exact absurd (qAr (qAh e) I.ok.above) (qA3 _)
  ·exact hb hm
 have nex:∀b:Addr,b∉X.ex:=fun b z=>by rw[hex] at z;cases z
 have up_:∀b,b∈frs X.outer→b∈frs (X.env::X.outer):=fun b hb=>by rw[Cf hf];exact qAi _ hb
 have kb:∀b o,X.s₀.heap.get? b=some o→X.H₀ b=none→b∉frs X.outer→B.get? b=some o:=fun b o e n hb =>
  f.kb b o (I.base.keep b o e n hb (nex b)) (I.base.free b o e n (nex b)) (old b o e hb)
 have ol:∀b o,X.s₀.heap.get? b=some o→b∉frs X.outer→∃ob,B.get? b=some ob:=fun b o e hb=>by
  obtain⟨o1,e1⟩:=I.base.there b o e (nex b)
  exact f.old b o1 e1 (old b o e hb)
 refine⟨fl,⟨fun b o e n hb _=>fl.1 b o (kb b o e n hb),fun b o e n hb _=>?_,fun b o e n _=>?_,fun b o e _=>?_,fun b xs e=>f.un.tups b xs (I.base.tups b xs e),fun b o u e=>f.un.frzs b o u (I.base.frzs b o u e),fun b ps e=>?_⟩,Qm f.hok f.tr f.fl.1 fl.1,kb,f.tr,ol⟩
 ·obtain⟨sl,e1⟩:=I.base.slot b o e n hb (nex b)
  obtain⟨sl1,e2⟩:=f.un.slot b _ e1 (I.base.free b o e n (nex b)) (up_ b hb) (by simp)
  obtain⟨o3,e3,d⟩:=Eh f.fl.2.2.1 (up_ b hb)
  rw[e2] at e3
  cases e3
  obtain⟨sl2,e4⟩:=up b _ e2 d
  exact⟨sl2,e4⟩
 ·obtain⟨o1,e1⟩:=I.base.there b o e (nex b)
  exact f.un.free b o1 e1 (I.base.free b o e n (nex b)) (by simp)
 ·by_cases hb:b∈frs X.outer
  ·obtain⟨o3,e3,d⟩:=Eh f.fl.2.2.1 (up_ b hb)
   obtain⟨sl2,e4⟩:=up b _ e3 d
   exact⟨_,e4⟩
  ·obtain⟨ob,eb⟩:=ol b o e hb
   exact⟨ob,fl.1 b ob eb⟩
 ·obtain⟨m1,e1⟩:=I.base.tbls b ps e
  obtain⟨m2,e2⟩:=f.un.tbls b _ e1
  exact⟨m1++m2,by rw[e2,Array.append_assoc]⟩
theorem Fly.inv (I:Inv X pins σ H s)(f:Fly X.prog X.w X.stack H H' s.heap s'.heap ea C a0 B)(ho:s'.os=s.os)(hg:AllBare s'.gens):Inv X pins σ H' s' :=
 I.call' (ch:=[]) ho f.un f.hok hg (fun b z=>absurd z (by simp))
end
structure ExC (K:PySem.W.Frag)(x:Str)(C:Addr):Prop where
 ns:PySem.W.nsIn K mainGlobals x=some (some (.ref C))
 ex:PySem.W.excIn K C [.type "ValueError",.type "Exception",.type "BaseException",.type "object"] "ValueError.__new__"=true
theorem Nu {K:PySem.W.Frag}{mg:Str→Option Value}{base:Heap} (M:Mod K mg base) (p:Program):∃loose mb,PySem.W.TopRead p loose mg mb base:=by
 obtain⟨o,es,ep,ho,hd,hk,hm⟩:=M.glob
 obtain⟨mb,h1,h2⟩:=M.blt
 refine⟨es.toList.filterMap fun e=>match e.key with|.str x _=>some x|_=>none,mb,M.glob,h1,M.nolimit,h2,fun x _ hx _ _ _=>?_⟩
 rw[←hm x]
 unfold nsFind findBy
 cases q:es.find? (fun e=>e.key.isStr x) with
 |none=>rfl
 |some e =>
  exfalso
  have h3:=Array.find?_some q
  have h4:=Array.mem_of_find?_eq_some q
  apply hx
  rw[qBd]
  refine⟨e,by simpa using h4,?_⟩
  obtain⟨kh,key,val⟩:=e
  cases key with
  |str y t =>
   have h5:(Value.str y t).isStr x=true:=h3
   have h6:y=x:=by simpa [Value.isStr] using h5
   show some y=some x
   rw[h6]
  |_=>cases h3
structure O6 (X:Cx)(U:Str→Prop):Prop where
 raise:∀(pins:List (Addr×Obj))(σ:St)(H:Hp)(s:Shared)(h1:Heap)(ea C:Addr)(x:Str)(vs:List Value),Inv X pins σ H s→AU X.H₀ H→X.mg x=some (.ref C)→U x→Heap.MadeExcOf s.heap h1 ea (.ref C) vs→X.xe (.ref ea) { s with heap:=h1 }
 pass:∀(pins:List (Addr×Obj))(σ:St)(H:Hp)(s:Shared)(e:Value)(s':Shared),Inv X pins σ H s→CXU X.prog X.w X.stack H s (fun cls _ H'=>∃x,X.mg x=some cls∧U x∧AU X.H₀ H') e s'→X.xe e s'
theorem Ku {P:Program}{w:World}{K:PySem.W.Frag}{mg:Str→Option Value}{base:Heap}{N:List Str}{qual:Str}{scope:Scope}{f:Addr}{cd:Value}{A:Around}{outer:List Env}{s:Shared}{H:Hp}{E:XK}{U:Str→Prop}
 (hE:∀x C H',AU H H'→mg x=some (.ref C)→U x→E (.ref C) none H'):O6 (Fn (CXU P w) P w K mg base N qual scope f cd A outer s H E) U where
 raise:=fun pins σ H1 s1 h1 ea C x vs I hs hm hu hx=>Qg I rfl rfl rfl hx fun h' t B fl=>⟨ea,C,.ref t,B,H1,rfl,I.os,I.bare,fl,hE x C H1 hs hm hu⟩
 pass:=fun pins σ H1 s1 e s' I h=>by
  obtain⟨ea,C,a0,B,H',rfl,ho,hg,fl,x,hm,hu,hs⟩:=h
  exact SD I rfl rfl rfl fl fun h' fl'=>⟨ea,C,a0,B,H',rfl,ho.trans I.os,hg,fl',hE x C H' hs hm hu⟩
section
variable {X:Cx}{U:Str→Prop}{e:Expr}{es:List Expr}{te:TE3}{tr:TA3}{pos:Pos}
def SV (U:Str→Prop)(x:Str)(te:TE3):TS3:=fun _ τ=>te τ fun _=>U x
theorem Bo {x:Str}{C:Addr}{np cpos:Pos} (xo:O6 X U) (hc:X.calm=true) (he:PE3 X e te) (hg:Gl X x) (ec:ExC X.K x C) (hm:X.mg x=some (.ref C))
 (hs:starEach [e] X.env=(false,eval e X.env)::starEach [] X.env:=by exact AI rfl) (hplain:(backTo cpos (starEach [e] X.env)).any (·.1)=false:=by exact A1 rfl) (hd:(x==("__debug__":Str))=false:=by decide) (hl:X.lent=none:=by rfl) :
 PS3 X (.Raise (some (.Call (.Name x np) [e] [] cpos)) none pos) (SV U x te):=by
 refine⟨?_⟩
 intro pins s σ H D2 I h
 obtain⟨B,z,τ,D3,r,ht,c⟩:=h
 obtain⟨loose,mb,T⟩:=Nu I.mod X.prog
 obtain⟨tl,N,nm,q,bs,hdct,sn,sub,ab,col,dd,k0,k1,k2,k3,k5,mN,hC,hN,hni,TL⟩:=(PySem.W.own_of_in I.mod.kin T ec.ns ec.ex).obj
 refine wpAny_Raise_call_subT (C:=C) (nm:=nm) (q:=q) (N:=N) (bs:=bs) (bm:=tl) (hdct:=hdct) (sn:=sn) (sub:=sub) (ab:=ab) (col:=col) (dd:=dd) (k0:=k0) (k1:=k1) (k2:=k2) (k3:=k3) (k5:=k5)
  PySem.F.excBase_ValueError (mN:=mN) (TL.hasType PySem.F.excBase_ValueError.hasBase) (I.ok.hd hc) hplain hni (Bv I hg hm ⟨rfl,?_⟩ hd)
 have pa:=(Az he.out A5 hs) cpos pins s σ H (fun vs H1=>vs.length=1∧AU X.H₀ H1∧U x) I ⟨B,_,τ,_,r,ht,fun s' v H' e' i' f' h'=>⟨rfl,(r.all hl).trans e'.hh,h'⟩⟩
 rw[hs] at pa ⊢
 refine Calls.evalArgs_plain (thn pa fun us s2 ⟨vs,H2,I2,rv,hl,hsame,hu⟩=>⟨rfl,?_,I2.bk _ _ hC,hN.keeps I2.bk,TL.keeps I2.bk,fun h' ea hx=>?_⟩)
 ·have:=rv.length
  show us.length≤sizeLine
  have z:us.length=1:=()
  rw[z]
  decide
 ·exact xo.raise pins σ H2 s2 h' ea C x us I2 hsame hm hu hx
def KJ (U:Str→Prop)(sp:Sp3)(t:TA3):TE3:=fun τ R=>t τ fun ss=>sp ss R U
theorem Lo {k:Nat}{x:Str}{ps:List Str}{sp:Sp3}{p:Pos} (xo:O6 X U) (c:Cal X.prog X.w X.K X.mg X.base (CXU X.prog X.w) k x ps sp) (hr:Be k X.A) (hg:Gl X x) (ha:PA3 X (e::es) tr)
 (hdb:(x==("__debug__":Str))=false:=by decide) (he:starEach (e::es) X.env=(false,eval e X.env)::starEach es X.env:=by exact AI rfl) (hpl:(backTo pos (starEach es X.env)).any (·.1)=false:=by exact A1 rfl) (hl:X.lent=none∨∀y,¬U y:=by first|exact .inl rfl|exact .inr (fun _ z=>z)) :
 PE3 X (.Call (.Name x p) (e::es) [] pos) (KJ U sp tr):=by
 refine⟨?_⟩
 obtain⟨f,fd,F,hm,hk,hb⟩:=c.ex
 refine Al (KR (E:=fun cls _ H'=>∃y,X.mg y=some cls∧U y∧AU X.H₀ H') F hr hg hm hk hb .nil (fun pins σ H s e s' I h=>xo.pass pins σ H s e s' I h) ha.out hdb he hpl) fun σ H Q ⟨B,z,τ,R,r,ht,q⟩=>⟨B,_,τ,_,r,ht,fun ss vs H1 e1 i1 h1=>?_⟩
 show An X.K X.mg sp (vs++[]) H1.h Q _
 rw[qA0]
 exact⟨H1.z,ss,R,U,e1.sub,i1,h1,fun s v H2 e2 i2 f2 h2=>q s v H2 (e1.trans e2) i2 (CA e1 f2) h2,fun y C H2 e2 hy hu=>⟨y,hy,hu,hl.elim (fun hl=>(r.all hl).trans (e1.hh.trans e2)) (fun hn=>(hn y hu).elim)⟩⟩
end
section
variable {P:Program}{w:World}{K:PySem.W.Frag}{mg:Str→Option Value}{base:Heap}
theorem fnU {x qual:Str}{st:Stmt}{f:Addr}{fd:FuncData}{N ps:List Str}{k:Nat}{sp:Sp3} (F:Fun K x qual st f fd) (Sc:Av N ps (Ae st)) (len:∀ss R U,sp ss R U→ss.length=ps.length)
 (hbody:∀(cdv:Value)(A:Around)(outer:List Env)(s:Shared)(H:Hp)(E:XK)(ss:List S)(R:S→Prop)(U:Str→Prop),Be k (A.deeper (envOfC qual (Ae st) s.heap.objs.size f cdv))→sp ss R U →
  O6 (Fn (CXU P w) P w K mg base N qual (Ae st) f cdv A outer s H E) U →
  ∃t,C4 (Fn (CXU P w) P w K mg base N qual (Ae st) f cdv A outer s H E) (A4 st) t∧t { nx:=fun _=>R (.d .non),rt:=R } (B7 N ss)):AJ P w K mg base (CXU P w) (k+1) f fd ps (An K mg sp):=by
 obtain⟨oc,od,kV,doc,pm,an,cdv,ct,osl,rfl,lk,hcd⟩:=F.ex
 refine JF lk hcd Sc (fun vs H Q E hh=>by obtain⟨z,ss,R,U,hz,ha,h3,_⟩:=hh;exact ha.1.trans (len ss R U h3)) fun A outer s H vs Q E hr hh9=>?_
 obtain⟨z,ss,R,U,hz,ha,h3,q,qe⟩:=hh9
 obtain⟨t,ht,hq⟩:=hbody cdv A outer s H E ss R U hr h3 (Ku qe)
 exact⟨_,ht.out,⟨H,z⟩,z,B7 N ss,_,CM ha hz (AU.refl H),hq,⟨fun τ σ p r h=>q (.d .non) _ p r.ext Is.non Bp h,fun _ _ _ _ z=>z.elim,fun _ _ _ _ z=>z.elim,fun s v p e i f h=>q s v p e i f h⟩⟩
theorem AJ.anyCX {CX:CXT}{k:Nat}{f:Addr}{fd:FuncData}{ps:List Str}{sp:Sp} (F:AJ P w K mg base CX0 k f fd ps sp):AJ P w K mg base CX k f fd ps sp :=
 ⟨F.len,fun A outer s H args us vs Q E hr h0 hb hv hs=>codeAny_mono (F.run A outer s H args us vs Q E hr h0 hb hv hs) fun r s' h=>by
  cases r with
  |error e=>exact(show False from h).elim
  |ok fl=>cases fl<;>exact h⟩
end
section
variable {K:PySem.W.Frag}{M:Model}{A:Around}{E:Value→Shared→Prop}{s:Shared}
structure HnC (K:PySem.W.Frag)(C:Addr):Prop where
 nt:PySem.W.instIn K (.ref C) (.type "tuple")=some false
 ty:(PySem.W.clsIn K C).isSome=true
 sb:PySem.W.mroIn K C (.type "BaseException")=some true
theorem Cz {h:Heap}{C:Addr} (X:K.In h) (hc:(PySem.W.clsIn K C).isSome=true):PySem.W.Looks M h (isType (.ref C)) true:=by
 obtain⟨cd,e⟩:=qBR.mp hc
 unfold PySem.W.clsIn at e
 split at e
 ·rename_i c' d' cd' sl' ho
  intro A' Q' E' s' k q
  unfold isType loadHead
  exact wpAny_bind (wpAny_loadPart (k _ _ (X _ _ ho)) (wpAny_pure q))
 ·cases e
theorem GY {ea C Cx:Addr}{oe:Obj}{b:Bool}{Q:Bool→Shared→Prop} (X:K.In s.heap) (hn:HnC K Cx) (he:s.heap.get? ea=some oe) (hcls:oe.cls=.ref C) (hb:PySem.W.mroIn K C (.ref Cx)=some b) (q:Q b s) :
 wpAny M A (excMatches (.ref ea) (.ref Cx)) Q E s:=by
 have L1:=PySem.W.looks_instIn (M:=M) X hn.nt
 have L2:=Cz (M:=M) X hn.ty
 have L3:=qBL (M:=M) X hn.sb
 have L4:=qBL (M:=M) X hb
 have L5:PySem.W.Looks M s.heap (typeOf (.ref ea)) (.ref C):=hcls ▸ (PySem.W.Looks.ld he).andThen .now
 unfold excMatches isExcClass
 refine wpAny_bind (L1.at ?_)
 simp only[qBe,if_false,pure_bind,qBv,List.forIn_nil,bind_assoc]
 refine wpAny_bind (L2.at ?_)
 simp only[if_true]
 refine wpAny_bind (L3.at ?_)
 simp only[Bool.not_true,qBe,if_false,pure_bind]
 refine wpAny_bind (L5.at ?_)
 refine wpAny_bind (L4.at ?_)
 cases b with
 |true=>simp only[if_true,pure_bind];exact wpAny_pure q
 |false=>simp only[qBe,if_false,pure_bind];exact wpAny_pure q
end
def hnd (X:Cx)(ea:Addr):Cx:={ X with A:=X.A.mark (some (.ref ea)),calm:=false }
section
variable {X:Cx}{pins:List (Addr×Obj)}{σ:St}{H H':Hp}{s s':Shared}{ea C:Addr}{a0:Value}{B:Heap}
theorem FI (I:Inv X pins σ H s)(ea:Addr):Inv (hnd X ea) pins σ H s :=
 ⟨⟨I.ok.mod,I.ok.kind,I.ok.glob,I.ok.blt,I.ok.above,I.ok.inj,I.ok.has,I.ok.cab,(fun z=>by cases z),I.ok.frames,I.ok.stk,I.ok.exf,I.ok.bs,I.ok.bsz,I.ok.noex,I.ok.exfs,I.ok.funs,I.ok.frf,I.ok.tb⟩,I.os,I.bare,I.base,I.loc,I.cell,I.free,I.freeC,I.pin,I.hok,I.len⟩
theorem Dt (hd:X.calm=true→X.A.handled=none)(hfm:X.A.frames=some X.stack)(I:Inv (hnd X ea) pins σ H s):Inv X pins σ H s :=
 ⟨⟨I.ok.mod,I.ok.kind,I.ok.glob,I.ok.blt,I.ok.above,I.ok.inj,I.ok.has,I.ok.cab,hd,hfm,I.ok.stk,I.ok.exf,I.ok.bs,I.ok.bsz,I.ok.noex,I.ok.exfs,I.ok.funs,I.ok.frf,I.ok.tb⟩,I.os,I.bare,I.base,I.loc,I.cell,I.free,I.freeC,I.pin,I.hok,I.len⟩
theorem IL {D2:GI}{f:Flow} (hd:X.calm=true→X.A.handled=none) (hfm:X.A.frames=some X.stack) (h:SP (hnd X ea) pins D2 f s):SP X pins D2 f s:=by
 cases f with
 |next=>obtain⟨σ',H',I',q⟩:=h;exact⟨σ',H',Dt hd hfm I',q⟩
 |brk=>obtain⟨σ',H',I',q⟩:=h;exact⟨σ',H',Dt hd hfm I',q⟩
 |cont=>obtain⟨σ',H',I',q⟩:=h;exact⟨σ',H',Dt hd hfm I',q⟩
 |ret u=>obtain⟨v,σ',H',I',q⟩:=h;exact⟨v,σ',H',Dt hd hfm I',q⟩
theorem LM {B p:HZ}{τ:Tau} (r:Rep X B τ σ p) (ea:Addr):Rep (hnd X ea) B τ σ p:=⟨r.len,r.ext,r.val,r.own,r.sep,r.top,r.pin⟩
theorem D7 {B p:HZ}{τ:Tau} (r:Rep (hnd X ea) B τ σ p):Rep X B τ σ p:=⟨r.len,r.ext,r.val,r.own,r.sep,r.top,r.pin⟩
theorem IW {B:HZ}{D3:Gr}{D2:GI} (c:N6 X B D3 D2) (ea:Addr):N6 (hnd X ea) B D3 D2:=⟨fun τ σ H r=>c.nx τ σ H (D7 r),fun τ σ H r=>c.bk τ σ H (D7 r),fun τ σ H r=>c.ct τ σ H (D7 r),c.rt⟩
theorem Oc {E:Value→Shared→Prop}{Q:Flow→Shared→Prop}{x:Str}{Cx:Addr}{np hp:Pos}{b0:Stmt}{suite:List Stmt}{Cp:List ExceptHandler} (I:Inv X pins σ H s) (hst:X.stack=X.env::X.outer) (hf:X.env.frame=some X.env.locals)
 (fl:Fly X.prog X.w X.stack H H' s.heap s'.heap ea C a0 B) (ho:s'.os=s.os) (hg:AllBare s'.gens) (hgx:Gl X x) (hm:X.mg x=some (.ref Cx)) (hn:HnC X.K Cx) (hb:PySem.W.mroIn X.K C (.ref Cx)=some true) (hd:(x==("__debug__":Str))=false)
 (go:∀s2:Shared,Inv X pins σ H' s2→wpAny (model X.prog X.w) (X.A.mark (some (.ref ea))) (execs (b0::suite) X.env) Q (fun _ _=>False) s2) :
 wpAny (model X.prog X.w) X.A (noteFrame (.ref ea) X.env) (fun _ s₂=>wpAny (model X.prog X.w) X.A (setFlight (.ref ea) none) (fun _ s₃ =>
  wpAny (model X.prog X.w) X.A (handleBy (.ref ea) X.env (.ExceptHandler (some (.Name x np)) none (b0::suite) hp::Cp)) Q E s₃) E s₂) E s':=by
 have hfr:X.A.frames=some (X.env::X.outer):=by rw[←hst];exact I.ok.frames
 have fl0:=fl.fl
 rw[hst] at fl0
 refine wpAny_looks_onW hfr hf fl0 fun h4 held up4=>?_
 refine wpAny_landsW held fun h5 fl5 up5=>?_
 rw[←hst] at fl5
 have f5:=fl.to fl5 (up4.trans up5)
 have I5:Inv X pins σ H' { s' with heap:=h5 }:=Fly.inv (s':={ s' with heap:=h5 }) I f5 ho hg
 refine wpAny_handleBy_cons (codeAny_handlers_test (Bv (X:=hnd X ea) (FI I5 ea) hgx hm ?_ hd)) (by intro q;cases q)
 obtain⟨oe,he,hc⟩:=f5.fl.there
 refine GY (s:={ s' with heap:=h5 }) I5.kIn hn he hc hb ?_
 refine codeAny_handlers_suite ?_
 refine lands_againW (s:={ s' with heap:=h5 }) f5.fl fun h6 fl6 up6=>?_
 have f6:=f5.to fl6 up6
 have I6:Inv X pins σ H' { s' with heap:=h6 }:=Fly.inv (s':={ s' with heap:=h6 }) I f6 ho hg
 exact wpAny_mono (go _ I6) (fun f s2 h=>h) fun _ _ z=>z.elim
theorem D5 {CX:CXT}{k:Nat}{f:Addr}{fd:FuncData}{ps:List Str}{sp:Sp}{Ex:XK}{EE:Value→Shared→Prop}{x:Str}{p pos:Pos}{e:Expr}{es:List Expr}{t:TA}{Q:VK} (F:AJ X.prog X.w X.K X.mg X.base CX k f fd ps sp) (hr:Be k X.A) (hg:Gl X x) (hm:X.mg x=some (.ref f))
 (hk:PySem.W.keepIn X.K (.ref f)=true) (hb:L2.Binds X.K fd ps []) (ha:PA X (e::es) t) (hno:∀e s,X.xe e s→EE e s) (I:Inv X pins σ H s)
 (hx:∀(H1:Hp)(s1:Shared)(e:Value)(s':Shared),Inv X pins σ H1 s1→CX X.stack H1 s1 Ex e s'→EE e s') (h:t σ H fun vs H1=>sp vs H1 Q Ex)
 (hdb:(x==("__debug__":Str))=false) (he:starEach (e::es) X.env=(false,eval e X.env)::starEach es X.env) (hpl:(backTo pos (starEach es X.env)).any (·.1)=false) :
 wpAny (model X.prog X.w) X.A (eval (.Call (.Name x p) (e::es) [] pos) X.env) (EP X pins σ Q) EE s:=by
 refine wpAny_Call_Name_kw (Bv I hg hm ?_ hdb)
 refine qBj (h₀:=X.base) I.ok.mod.kin hk (wpAny_mono (ha pos pins s σ H _ I h) (fun us s1 ⟨vs,H1,I1,r,q⟩=>⟨I1.kIn,?_⟩) hno) he hpl
 have hl:(us++([]:List Value)).length=ps.length:=by rw[qA0,←r.length];exact F.len _ _ _ _ q
 have bb:=hb s1 us I1.kIn hl
 rw[qA0] at bb
 refine wpAny_call (codeAny_mono (F.run X.A X.stack s1 H1 ⟨us,[]⟩ us vs Q Ex hr I1.env0 bb r q) fun r s' hq=>?_)
 cases r with
 |error e=>exact hx H1 s1 e s' I1 hq
 |ok fl =>
  cases fl with
  |ret u=>exact I1.after hq
  |next=>exact False.elim hq
  |brk=>exact False.elim hq
  |cont=>exact False.elim hq
end
section
variable {X:Cx}{e:Expr}{es:List Expr}{tr:TA3}{th:TS3}
def Up (i:Nat)(sp:Sp3)(ok:Str→Prop)(tr:TA3)(th:TS3):TS3:=fun D3 τ=>tr τ fun ss=>sp ss (fun s=>match s with
 |.r _=>False
 |.d x=>D3.nx (τ.set i (some (.d x)))
 |.l xs=>D3.nx (τ.set i (some (.l xs)))) (fun y=>ok y∧th D3 τ)
theorem Xw {k i:Nat}{x f cx:Str}{ps:List Str}{sp:Sp3}{Cx:Addr}{ok:Str→Prop}{px pf pc pa np hp pt:Pos}{b0:Stmt}{suite:List Stmt} (hst:X.stack=X.env::X.outer) (hf:X.env.frame=some X.env.locals) (hno:∀e s,¬X.xe e s)
 (c:Cal X.prog X.w X.K X.mg X.base (CXU X.prog X.w) k f ps sp) (hr:Be k X.A) (hg:Gl X f) (ha:PA3 X (e::es) tr) (hN:X.N.Nodup) (hi:X.N[i]? = some x) (hx:Loc X.env.scope x)
 (hgx:Gl X cx) (hm:X.mg cx=some (.ref Cx)) (hn:HnC X.K Cx) (hok:∀y C,ok y→X.mg y=some (.ref C)→PySem.W.mroIn X.K C (.ref Cx)=some true) (hh:∀ea,C4 (hnd X ea) (b0::suite) th)
 (hdb:(f==("__debug__":Str))=false:=by decide) (hd:(cx==("__debug__":Str))=false:=by decide) (he:starEach (e::es) X.env=(false,eval e X.env)::starEach es X.env:=by exact AI rfl) (hpl:(backTo pc (starEach es X.env)).any (·.1)=false:=by exact A1 rfl)
 (hs:swapsWith (.Call (.Name f pf) (e::es) [] pc) (some (.Name x px)) pa.line X.env=pure false:=by rfl) (hfn:X.fn x=true∨X.env.scope.names.lookup x=some .local:=by first|exact .inl rfl|exact .inr rfl|assumption) (hpn:Bi X i:=by first|exact AZ rfl|exact A0 rfl ∅|assumption) :
 PS3 X (.Try [.Assign [.Name x px] (.Call (.Name f pf) (e::es) [] pc) pa] [.ExceptHandler (some (.Name cx np)) none (b0::suite) hp] [] [] pt) (Up i sp ok tr th):=by
 refine⟨?_⟩
 obtain⟨fa,fd,F,hmf,hk,hb⟩:=c.ex
 intro pins s σ H D2 I h
 obtain⟨B,z,τ,D3,r,ht,ct⟩:=h
 refine wpAny_Try_except (wpAny_execs_cons (wpAny_Assign_Name (thn (D5 (Ex:=fun cls _ H'=>∃y,X.mg y=some cls∧ok y∧th D3 τ∧AU H H') (Q:=fun v H'=>D2.nx (σ.set i (some v)) H') F hr hg hmf hk hb ha.out (fun e s z=>(hno e s z).elim) I ?hx ?h hdb he hpl) fun v s1 ⟨y,H1,I1,r1,q1⟩=>?nx) hs))
 case hx =>
  intro H1 s1 e' s' I1 hcx
  obtain⟨ea,C,a0,B',H',rfl,ho,hbr,fl,y,hy,hoky,hth,hsame⟩:=hcx
  refine Oc I1 hst hf fl ho hbr hgx hm hn (hok y C hoky hy) hd fun s2 I2=>?_
  exact wpAny_mono ((hh ea).out pins s2 σ H' D2 (FI I2 ea) ⟨B,_,τ,D3,LM (r.mono (Ext.grow r.ext.sub hsame)) ea,hth,IW ct ea⟩) (fun f s3 h3=>IL I.ok.hd I.ok.frames h3) fun e3 s3 z=>hno e3 s3 z
 case h =>
  refine⟨B,_,τ,_,r,ht,fun ss vs H1 e1 i1 h1=>⟨H1.z,ss,_,_,e1.sub,i1,h1,fun s v H2 e2 i2 f2 h2=>?_,fun y C H2 e2 hy hu=>⟨y,hy,hu.1,hu.2,e1.hh.trans e2⟩⟩⟩
  cases s with
  |r _=>exact h2.elim
  |d z=>exact ct.nx _ _ _ (r.set (e1.trans e2) i2 (CA e1 f2) rfl hpn) h2
  |l zs=>exact ct.nx _ _ _ (r.set (e1.trans e2) i2 (CA e1 f2) rfl hpn) h2
 case nx =>
  refine BN I1 hN hi hx r1 (fun s2 I2=>?_) hfn
  exact wpAny_execs_nil (wpAny_execs_nil ⟨_,H1,I2,q1⟩)
end
end L3
namespace L3
open PySem PySem.Spec PyProof.Rows L2
theorem O2 {X:Cx}:O6 X NoU where
 raise:=fun _ _ _ _ _ _ _ _ _ _ _ _ hu=>hu.elim
 pass:=fun _ _ _ _ _ _ _ h=>by
  obtain⟨_,_,_,_,_,_,_,_,_,_,_,hu,_⟩:=h
  exact hu.elim
section
variable {prog:Program}{w:World}{A:Around}{E:Value→Shared→Prop}{s:Shared}{K:PySem.W.Frag}{x D:Addr}
structure ExI (K:PySem.W.Frag)(D:Addr):Prop where
 ga:PySem.W.findIn K (.ref D) "__getattribute__"=some (some (.builtin "BaseException.__getattribute__"))
 gt:PySem.W.findIn K (.ref D) "__getattr__"=some none
 cl:(PySem.W.clsIn K D).isSome=true
 fc:PySem.W.findIn K (.ref D) "__class__"=some (some (.builtin "object.__class__"))
 sp:PySem.W.specialIn K (.builtin "object.__class__") "__get__"=some (some (.builtin "getset_descriptor.__get__"))
 tk:PySem.W.takesIn K (.builtin "object.__class__")=some true
 mo:PySem.W.mroIn K D (.type "object")=some true
 mb:PySem.W.mroIn K D (.type "BaseException")=some true
def At (h:Heap)(x C:Addr):Prop:=∃ox,h.get? x=some ox∧ox.cls=.ref C
theorem At.type {M:Model}{h:Heap} (I:At h x D):PySem.W.Looks M h (typeOf (.ref x)) (.ref D):=by
 obtain⟨ox,h1,h2⟩:=I
 exact h2 ▸ (PySem.W.Looks.ld h1).andThen .now
open PySem.W Builtin Builtin.ObjectAttr Builtin.Getset_descriptor in
theorem Jm {tp:Value}{R:Result→Shared→Prop} (X:K.In s.heap) (I:At s.heap x D) (hm:PySem.W.mroIn K D (.type "object")=some true)
 (h:R (.ok (.ret (.ref D))) s):codeAny (model prog w) A (.call (.builtin "getset_descriptor.__get__") ⟨[.builtin "object.__class__",.ref x,tp],[]⟩) R s:=by
 obtain⟨hh,g,dr,t,os⟩:=s
 have L0:=I.type (M:=model prog w)
 have L1:=qBL (M:=model prog w) X hm
 refine codeAny_call_builtin KF.slot_gs.plain KF.entry_gs (KF.slot_gs.check _ _ _ _ _ _ _ _ KF.type_class (KF.args_gs _ _ _) ?_)
 unfold Builtin.«getset_descriptor.__get__» descrGet
 rw[dga_obj]
 refine wpAny_bind (wpAny_pure ?_)
 unfold descrGetter descrCheckInstance descrNameAndClass isInstance
 simp only[KF.owner_class]
 repeat lk
 refine⟨Code.quiet_builtin _ (by decide +kernel),codeAny_builtin KF.entry_class ?_⟩
 unfold Builtin.«object.__class__» shownTypeOf
 repeat lk
 exact h
open PySem.W in
theorem Lf {tk:Tok}{Q:Fin→Shared→Prop} (i:ExI K D) (X:K.In s.heap) (I:At s.heap x D) (hq:Q (.done (.ret (.ref D))) s) :
 wpAny (model prog w) A (Builtin.«object.__getattribute__» ⟨[.ref x,.str "__class__" tk],[]⟩) Q E s:=by
 obtain⟨hh,g,d,t,os⟩:=s
 have L0:=I.type (M:=model prog w)
 have M1:=qBn (M:=model prog w) X i.fc
 have M2:PySem.W.Looks (model prog w) hh (Builtin.ObjectAttr.getOf (some (.builtin "object.__class__"))) (some (.builtin "getset_descriptor.__get__")):=PySem.W.looks_specialIn X i.sp
 have M3:=PySem.W.looks_takesIn (M:=model prog w) X i.tk
 have L1:PySem.W.Looks (model prog w) hh (Builtin.ObjectAttr.find (.ref x) (.ref D) "__class__") (.bind (.builtin "getset_descriptor.__get__") (.builtin "object.__class__")) :=
  M1.andThen (M2.andThen ((show PySem.W.Looks (model prog w) hh (Builtin.ObjectAttr.dataDescriptor? (some (.builtin "object.__class__")) (some (.builtin "getset_descriptor.__get__"))) (some (_,_)) from M3.andThen .now).andThen (PySem.W.Looks.tag .now)))
 refine wpAny_bind (wpAny_pure (wpAny_bind (wpAny_pure (wpAny_bind (L0.at (wpAny_bind (L1.at ?_)))))))
 show wpAny _ _ (holding [.builtin "object.__class__"] (call (.builtin "getset_descriptor.__get__") [.builtin "object.__class__",.ref x,.ref D]) >>= ret) _ _ _
 refine wpAny_bind (wpAny_holding (wpAny_call (Jm X I i.mo ?_)))
 exact wpAny_pure hq
theorem Qf (v:Value):bindSpecial (.builtin "BaseException.__getattribute__") v=pure (.builtin "BaseException.__getattribute__",[v]):=PySem.F.excAttr_ValueError.ga.bind v
theorem LK {Q:Option Value→Shared→Prop} (i:ExI K D) (X:K.In s.heap) (I:At s.heap x D) (h:Q (some (.ref D)) { s with toks:=s.toks+1 }):wpAny (model prog w) A (getAttr? (.ref x) "__class__") Q E s:=by
 obtain⟨hh,g,d,t,os⟩:=s
 have L0:=I.type (M:=model prog w)
 have L1:=qBn (M:=model prog w) X i.ga
 have L2:=qBn (M:=model prog w) X i.gt
 have L3:=qBL (M:=model prog w) X i.mb
 have hx2:(Value.builtin "BaseException.__getattribute__" == Value.builtin "object.__getattribute__")=false:=by decide +kernel
 unfold getAttr? getAttrBy? getAttrBy
 refine wpAny_bind (wpAny_mkText (wpAny_bind (wpAny_attempt (wpAny_holding (wpAny_bind (L0.at (wpAny_bind (L1.at ?_))))))))
 dsimp only
 rw[hx2,qBV,if_neg qAe]
 unfold getAttrByItsOwn hookBefore
 refine wpAny_bind ?_
 rw[if_pos (by rfl)]
 refine L2.at ?_
 refine wpAny_bind (wpAny_attempt (wpAny_holding ?_))
 unfold callGetattribute
 rw[Bool.false_and,if_neg qAe]
 unfold boundAndCalled
 rw[Qf]
 refine wpAny_bind (wpAny_pure ?_)
 dsimp only
 refine wpAny_call (codeAny_call_builtin PySem.F.excAttr_ValueError.ga.plain PySem.F.entry_bexc_ga ?_)
 have hk:builtinKind "BaseException.__getattribute__"=some .slot:=by decide +kernel
 have hsplit:splitId "BaseException.__getattribute__"=some ("BaseException","__getattribute__"):=by decide +kernel
 have ha:=F.args_bexc_ga (.ref x) (.str "__class__" t)
 simp only[checkBuiltinCall,hk,hsplit]
 refine wpAny_bind ((L0.andThen L3).at ?_)
 unfold argsOk at ha
 simp only[Bool.not_true,qBe,if_false,qBG,qBP]
 first|rw[ha]|skip
 refine wpAny_pure ?_
 refine Lf i X I ?_
 exact wpAny_pure (wpAny_pure h)
theorem SK {M:Model}{h:Heap}{C:Addr} (X:K.In h) (hc:(PySem.W.clsIn K C).isSome=true):PySem.W.Looks M h (isType (.ref C)) true:=Cz X hc
theorem Mu (i:ExI K D):PySem.W.KitX K (.ref x) (.ref D) (fun h=>At h x D) where
 ty:=fun _ _ _ I=>I.type
 it:=fun _ _ X _=>Cz X i.cl
 ne:=fun h tp dd its n sl X htp=>by
  obtain⟨cd,hc⟩:=qBR.mp i.cl
  refine Bool.eq_false_iff.mpr fun q=>?_
  have e:D=tp:=Value.ref.inj (beq_iff_eq.mp q)
  subst e
  unfold PySem.W.clsIn at hc
  split at hc
  ·rename_i c' d' cd' sl' ho
   have z:=(X _ _ ho).symm.trans htp
   cases z
  ·cases hc
 ca:=fun X I k=>LK i X I k
end
def EW (X:Cx)(ea:Addr)(oe:Obj):Cx:={ X with A:=X.A.mark (some (.ref ea)),calm:=false,pn:=(ea,oe)::X.pn }
section
variable {X:Cx}{pins:List (Addr×Obj)}{σ:St}{H H':Hp}{s s':Shared}{ea C:Addr}{oe:Obj}{a0:Value}{B:Heap}
theorem My (I:Inv X pins σ H s)(hp:s.heap.get? ea=some oe∧H ea=none∧ea≠X.env.locals∧ea∉X.fs∧∀v,oe.data≠.cell v):Inv (EW X ea oe) pins σ H s :=
 ⟨⟨I.ok.mod,I.ok.kind,I.ok.glob,I.ok.blt,I.ok.above,I.ok.inj,I.ok.has,I.ok.cab,(fun z=>by cases z),I.ok.frames,I.ok.stk,I.ok.exf,I.ok.bs,I.ok.bsz,I.ok.noex,I.ok.exfs,I.ok.funs,I.ok.frf,I.ok.tb⟩,I.os,I.bare,I.base,I.loc,I.cell,I.free,I.freeC,fun p hq=>by
  rcases qAq.mp (show p∈(ea,oe)::(X.pn++pins) from hq) with rfl|hq
  ·exact hp
  ·exact I.pin p hq,I.hok,I.len⟩
theorem E5 (hd:X.calm=true→X.A.handled=none)(hfm:X.A.frames=some X.stack)(I:Inv (EW X ea oe) pins σ H s):Inv X pins σ H s :=
 ⟨⟨I.ok.mod,I.ok.kind,I.ok.glob,I.ok.blt,I.ok.above,I.ok.inj,I.ok.has,I.ok.cab,hd,hfm,I.ok.stk,I.ok.exf,I.ok.bs,I.ok.bsz,I.ok.noex,I.ok.exfs,I.ok.funs,I.ok.frf,I.ok.tb⟩,I.os,I.bare,I.base,I.loc,I.cell,I.free,I.freeC,fun p hq=>I.pin p (qAi _ hq),I.hok,I.len⟩
theorem Iw {B p:HZ}{τ:Tau} (r:Rep X B τ σ p):Rep (EW X ea oe) B τ σ p:=⟨r.len,r.ext,r.val,r.own,r.sep,r.top,r.pin⟩
theorem Qz {B p:HZ}{τ:Tau} (r:Rep (EW X ea oe) B τ σ p):Rep X B τ σ p:=⟨r.len,r.ext,r.val,r.own,r.sep,r.top,r.pin⟩
theorem Hx {A:Around}{E:Value→Shared→Prop}{n:Str}{pos:Pos}{Q:Unit→Shared→Prop} (I:Inv X pins σ H s) (hl:X.env.kindOf n=some .local) (h:∀s',Inv X pins (List.replicate σ.length none) H s'→Q Unit.unit s') :
 wpAny (model X.prog X.w) A (do bindName X.env n .none;unbindBehindTheSuite X.env n pos) Q E s:=by
 obtain⟨m,hn,hv⟩:=id I.loc
 have hcls:(X.env.scope.kind == .class||(X.env.scope.kind == .module&&X.env.locals != X.env.globals))=false:=by rw[I.ok.kind];rfl
 have cne:=I.cne
 obtain⟨oL,_,_,hoL,_⟩:=id hn
 refine wpAny_nameGoes hl hn hcls fun h' m' hn' hs=>h _ ?_
 have tracked:HOk X.prog X.w H h':=fun b ob e=>by
  refine(I.hok b ob e).stay (fun c w' hc q=>(hs.2 c ?_).trans q) (fun _ q=>q) fun _ _ q=>q
  rintro rfl
  rcases hc with rfl|hc
  ·rw[I.free] at e;cases e
  ·rw[I.free] at hc;cases hc
 refine⟨I.ok,I.os,I.bare,⟨fun b o e n hb hx=>?_,fun b o e n hb hx=>?_,I.base.free,fun b o e hx=>?_,I.base.tups,I.base.frzs,I.base.tbls⟩,⟨_,hn',fun j y v' e1 e2 e3=>?_⟩,fun y c e=>?_,I.free,I.freeC,fun p hp=>?_,tracked,by rw[qCH];exact I.len⟩
 ·exact(hs.2 b (qAo (qAr (qAh e) I.ok.above))).trans (I.base.keep b o e n hb hx)
 ·obtain⟨sl,e1⟩:=I.base.slot b o e n hb hx
  exact⟨sl,(hs.2 b (qAo (qAr (qAh e) I.ok.above))).trans e1⟩
 ·obtain⟨o',e1⟩:=I.base.there b o e hx
  exact⟨o',(hs.2 b (qAo (qAr (qAh e) I.ok.above))).trans e1⟩
 ·rw[qBX] at e2
  split at e2<;>cases e2
 ·obtain⟨w',z⟩:=I.cell y c e
  exact⟨w',z.sameBut hs (cne y c e)⟩
 ·obtain⟨e,n,ne,nf,d⟩:=I.pin p hp
  exact⟨(hs.2 p.1 ne).trans e,n,ne,nf,d⟩
structure ExO (oe:Obj)(C:Addr):Prop where
 cls:oe.cls=.ref C
theorem IB {E:Value→Shared→Prop}{Q:Flow→Shared→Prop}{x n:Str}{i:Nat}{Cx:Addr}{np hp:Pos}{b0:Stmt}{suite:List Stmt}{Cp:List ExceptHandler} (I:Inv X pins σ H s) (hst:X.stack=X.env::X.outer) (hf:X.env.frame=some X.env.locals)
 (fl:Fly X.prog X.w X.stack H H' s.heap s'.heap ea C a0 B) (ho:s'.os=s.os) (hg:AllBare s'.gens) (hgx:Gl X x) (hm:X.mg x=some (.ref Cx)) (hn:HnC X.K Cx) (hb:PySem.W.mroIn X.K C (.ref Cx)=some true) (hd:(x==("__debug__":Str))=false)
 (hN:X.N.Nodup) (hi:X.N[i]? = some n) (hx:Loc X.env.scope n) (hfn:X.fn n=true∨X.env.scope.names.lookup n=some .local)
 (go:∀(s2:Shared)(oe:Obj),ExO oe C→Inv (EW X ea oe) pins (σ.set i (some (.ref ea))) H' s2→wpAny (model X.prog X.w) (X.A.mark (some (.ref ea))) (execs (b0::suite) X.env) (fun f s4=>wpAny (model X.prog X.w) X.A (do bindName X.env n .none;unbindBehindTheSuite X.env n hp) (fun _ s5=>Q f s5) E s4) (fun _ _=>False) s2) :
 wpAny (model X.prog X.w) X.A (noteFrame (.ref ea) X.env) (fun _ s₂=>wpAny (model X.prog X.w) X.A (setFlight (.ref ea) none) (fun _ s₃ =>
  wpAny (model X.prog X.w) X.A (handleBy (.ref ea) X.env (.ExceptHandler (some (.Name x np)) (some n) (b0::suite) hp::Cp)) Q E s₃) E s₂) E s':=by
 have hfr:X.A.frames=some (X.env::X.outer):=by rw[←hst];exact I.ok.frames
 have fl0:=fl.fl
 rw[hst] at fl0
 refine wpAny_looks_onW hfr hf fl0 fun h4 held up4=>?_
 refine wpAny_landsW held fun h5 fl5 up5=>?_
 rw[←hst] at fl5
 have f5:=fl.to fl5 (up4.trans up5)
 have I5:Inv X pins σ H' { s' with heap:=h5 }:=Fly.inv (s':={ s' with heap:=h5 }) I f5 ho hg
 refine wpAny_handleBy_cons (codeAny_handlers_test (Bv (X:=hnd X ea) (FI I5 ea) hgx hm ?_ hd)) (by intro q;cases q)
 obtain⟨oe,he,hc⟩:=f5.fl.there
 refine GY (s:={ s' with heap:=h5 }) I5.kIn hn he hc hb ?_
 refine codeAny_handlers_suite_as ?_
 refine lands_againW (s:={ s' with heap:=h5 }) f5.fl fun h6 fl6 up6=>?_
 have f6:=f5.to fl6 up6
 have I6:Inv X pins σ H' { s' with heap:=h6 }:=Fly.inv (s':={ s' with heap:=h6 }) I f6 ho hg
 obtain⟨oe6,vs6,he6,hc6,hd6,_⟩:=f6.fl.first
 have noF:∀b,b∈frs X.stack→ea≠b:=fun b hbm z=>by
  obtain⟨o,h1,h2⟩:=Eh f6.fl.2.2.1 hbm
  rw[←z,he6] at h1
  cases h1
  exact h2 _ hd6
 have hnone:H' ea=none:=by
  cases e:H' ea with
  |none=>rfl
  |some o =>
   obtain⟨ob,eb⟩:=f6.tr _ _ e
   have:=f6.fl.2.1
   rw[eb] at this
   cases this
 have IE:Inv (EW X ea oe6) pins σ H' { s' with heap:=h6 }:=My I6 ⟨he6,hnone,noF _ (by rw[hst,Cf hf];exact qAt),fun z=>noF _ (by rw[hst,Cf hf];exact qAi _ z) rfl,fun v z=>by rw[hd6] at z;cases z⟩
 refine BN (X:=EW X ea oe6) (v:=.ref ea) IE hN hi hx rfl (fun s7 I7=>?_) hfn
 exact wpAny_mono (go s7 oe6 ⟨hc6⟩ I7) (fun f s4 h=>h) fun _ _ z=>z.elim
theorem ME {c:Value}{cv:V}{b:Bool} (hO:ExO oe C) (i:ExI X.K C) (rc:AN cv c) (hc:∀u,AN cv u→u=c) (hk:PySem.W.kitOne X.K (.ref C) c=some b):A7 (EW X ea oe) (.builtin "isinstance") (fun xs H Q=>xs=[.ref ea,cv]∧Q (.bl b) H):=by
 intro pins s σ H xs us Q I rs h
 obtain⟨rfl,q⟩:=h
 obtain⟨v',u',rfl,r1,r2⟩:=Jz rs
 cases r1
 cases hc _ r2
 have hp:=I.pin (ea,oe) (qB8 _ qAt)
 exact qAK (Mu i) I.kIn ⟨oe,hp.1,hO.cls⟩ hk (fun z=>nomatch z) fun tk=>⟨.bl b,H,I.tok tk,rfl,q⟩
end
section
variable {X:Cx}{ea C:Addr}{oe:Obj}
def U4 (i:Nat)(ea:Addr)(b:Bool):TE3:=fun τ R=>τ[i]? = some (some (.d (.ref ea)))∧R (.d (.bl b))
theorem NR {i:Nat}{n y:Str}{p p1 p2 pos:Pos}{c:Value}{cv:V}{b:Bool} (hO:ExO oe C) (hi:ExI X.K C) (rc:AN cv c) (hc:∀u,AN cv u→u=c) (hk:PySem.W.kitOne X.K (.ref C) c=some b)
 (hv:PE (EW X ea oe) (.Name n p1) (Gw i)) (hcl:PE (EW X ea oe) (.Name y p2) (tC cv)) (hg:Gl X "isinstance") (hm:X.mg "isinstance"=none)
 (he:starEach [.Name n p1,.Name y p2] X.env=(false,eval (.Name n p1) X.env)::starEach [.Name y p2] X.env:=by exact AI rfl) (he2:starEach [.Name y p2] X.env=(false,eval (.Name y p2) X.env)::starEach [] X.env:=by exact AI rfl) (hpl:(backTo pos (starEach [.Name y p2] X.env)).any (·.1)=false:=by exact A1 rfl) :
 PE3 (EW X ea oe) (.Call (.Name "isinstance" p) [.Name n p1,.Name y p2] [] pos) (U4 i ea b):=⟨Al (Cj (ME hO hi rc hc hk) hg hm qBC (Az hv (Az hcl A5 he2) he) (he:=he) (hpl:=hpl)) fun σ H Q ⟨B,z,τ,R,r,⟨ht,hR⟩,q⟩=>by
 obtain⟨v,h1,h2⟩:=r.val i _ ht
 cases h2
 exact⟨.ref ea,h1,rfl,q (.d _) _ ⟨H,z⟩ (Ext.refl r.ext.sub) (Is.bl _) Bp hR⟩⟩
theorem Fx {i:Nat}{n y:Str}{p p1 p2 pos:Pos}{Cy:Addr}{b:Bool} (hO:ExO oe C) (hi:ExI X.K C) (hk:PySem.W.kitOne X.K (.ref C) (.ref Cy)=some b)
 (hv:PE (EW X ea oe) (.Name n p1) (Gw i)) (hgy:Gl X y) (hmy:X.mg y=some (.ref Cy)) (hg:Gl X "isinstance") (hm:X.mg "isinstance"=none) (hd:(y==("__debug__":Str))=false:=by decide)
 (he:starEach [.Name n p1,.Name y p2] X.env=(false,eval (.Name n p1) X.env)::starEach [.Name y p2] X.env:=by exact AI rfl) (he2:starEach [.Name y p2] X.env=(false,eval (.Name y p2) X.env)::starEach [] X.env:=by exact AI rfl) (hpl:(backTo pos (starEach [.Name y p2] X.env)).any (·.1)=false:=by exact A1 rfl) :
 PE3 (EW X ea oe) (.Call (.Name "isinstance" p) [.Name n p1,.Name y p2] [] pos) (U4 i ea b) :=
 NR (cv:=.ref Cy) hO hi rfl (fun u z=>z) hk hv (HQ (X:=EW X ea oe) hgy hmy rfl hd) hg hm he he2 hpl
theorem Rq {i:Nat}{n y:Str}{p p1 p2 pos:Pos}{T:String}{b:Bool} (hO:ExO oe C) (hi:ExI X.K C) (hk:PySem.W.kitOne X.K (.ref C) (.type T)=some b)
 (hv:PE (EW X ea oe) (.Name n p1) (Gw i)) (hgy:Gl X y) (hmy:X.mg y=none) (hby:bootBuiltins y=some (.type T)) (hg:Gl X "isinstance") (hm:X.mg "isinstance"=none) (hn:y≠"__name__":=by decide) (hd:(y==("__debug__":Str))=false:=by decide)
 (he:starEach [.Name n p1,.Name y p2] X.env=(false,eval (.Name n p1) X.env)::starEach [.Name y p2] X.env:=by exact AI rfl) (he2:starEach [.Name y p2] X.env=(false,eval (.Name y p2) X.env)::starEach [] X.env:=by exact AI rfl) (hpl:(backTo pos (starEach [.Name y p2] X.env)).any (·.1)=false:=by exact A1 rfl) :
 PE3 (EW X ea oe) (.Call (.Name "isinstance" p) [.Name n p1,.Name y p2] [] pos) (U4 i ea b) :=
 NR (cv:=.ty T) hO hi rfl (fun u z=>z) hk hv (Ir (X:=EW X ea oe) (v:=.ty T) hgy hmy hby rfl hn hd) hg hm he he2 hpl
variable {e:Expr}{es:List Expr}{tr:TA3}
def S1 (i:Nat)(sp:Sp3)(ok:Str→Prop)(tr:TA3)(th:Addr→Str→TS3):TS3:=fun D3 τ=>tr τ fun ss=>sp ss (fun _=>D3.nx τ) (fun y=>ok y∧∀ea,th ea y { nx:=fun _=>False,rt:=D3.rt } (τ.set i (some (.d (.ref ea)))))
theorem QS {k i:Nat}{n f cx:Str}{ps:List Str}{sp:Sp3}{Cx:Addr}{ok:Str→Prop}{th:Addr→Str→TS3}{pf pc pa np hp pt:Pos}{b0:Stmt}{suite:List Stmt} (hst:X.stack=X.env::X.outer) (hf:X.env.frame=some X.env.locals) (hno:∀e s,¬X.xe e s)
 (c:Cal X.prog X.w X.K X.mg X.base (CXU X.prog X.w) k f ps sp) (hr:Be k X.A) (hg:Gl X f) (ha:PA3 X (e::es) tr) (hN:X.N.Nodup) (hi:X.N[i]? = some n) (hx:Loc X.env.scope n) (hkl:X.env.kindOf n=some .local)
 (hgx:Gl X cx) (hm:X.mg cx=some (.ref Cx)) (hn:HnC X.K Cx) (hok:∀y C,ok y→X.mg y=some (.ref C)→PySem.W.mroIn X.K C (.ref Cx)=some true) (hh:∀ea oe y C,ok y→X.mg y=some (.ref C)→ExO oe C→C4 (EW X ea oe) (b0::suite) (th ea y))
 (hdb:(f==("__debug__":Str))=false:=by decide) (hd:(cx==("__debug__":Str))=false:=by decide) (he:starEach (e::es) X.env=(false,eval e X.env)::starEach es X.env:=by exact AI rfl) (hpl:(backTo pc (starEach es X.env)).any (·.1)=false:=by exact A1 rfl)
 (hs:swapsWith (.Call (.Name f pf) (e::es) [] pc) none pa.line X.env=pure false:=by rfl) (hfn:X.fn n=true∨X.env.scope.names.lookup n=some .local:=by first|exact .inl rfl|exact .inr rfl|assumption) (hpn:Bi X i:=by first|exact AZ rfl|exact A0 rfl ∅|assumption) :
 PS3 X (.Try [.Expr (.Call (.Name f pf) (e::es) [] pc) pa] [.ExceptHandler (some (.Name cx np)) (some n) (b0::suite) hp] [] [] pt) (S1 i sp ok tr th):=by
 refine⟨?_⟩
 obtain⟨fa,fd,F,hmf,hk,hb⟩:=c.ex
 intro pins s σ H D2 I h
 obtain⟨B,z,τ,D3,r,ht,ct⟩:=h
 refine wpAny_Try_except (wpAny_execs_cons (wpAny_Expr_any (thn (D5 (Ex:=fun cls _ H'=>∃y,X.mg y=some cls∧(ok y∧∀ea,th ea y { nx:=fun _=>False,rt:=D3.rt } (τ.set i (some (.d (.ref ea)))))∧AU H H') (Q:=fun v H'=>D2.nx σ H') F hr hg hmf hk hb ha.out (fun e s z=>(hno e s z).elim) I ?hx ?h hdb he hpl) fun v s1 ⟨y,H1,I1,r1,q1⟩=>?nx) I.quiet hs))
 case hx =>
  intro H1 s1 e' s' I1 hcx
  obtain⟨ea,C,a0,B',H',rfl,ho,hbr,fl,y,hy,⟨hoky,hth⟩,hsame⟩:=hcx
  refine IB I1 hst hf fl ho hbr hgx hm hn (hok y C hoky hy) hd hN hi hx hfn fun s2 oe hO I2=>?_
  refine wpAny_mono ((hh ea oe y C hoky hy hO).out pins s2 _ H' { nx:=fun _ _=>False,rt:=D2.rt,bk:=fun _ _=>False,ct:=fun _ _=>False } I2 ⟨B,_,_,_,Iw ((r.mono (Ext.grow r.ext.sub hsame)).setd (.ref ea) hpn),hth ea,⟨fun _ _ _ _ z=>z.elim,fun _ _ _ _ z=>z.elim,fun _ _ _ _ z=>z.elim,ct.rt⟩⟩) (fun f s3 h3=>?_) fun e3 s3 z=>hno e3 s3 z
  cases f with
  |next=>obtain⟨_,_,_,z⟩:=h3;exact z.elim
  |brk=>obtain⟨_,_,_,z⟩:=h3;exact z.elim
  |cont=>obtain⟨_,_,_,z⟩:=h3;exact z.elim
  |ret u =>
   obtain⟨v,σ',H3,I3,rv,q3⟩:=h3
   exact Hx (E5 I.ok.hd I.ok.frames I3) hkl fun s5 I5=>⟨v,_,H3,I5,rv,q3⟩
 case h =>
  refine⟨B,_,τ,_,r,ht,fun ss vs H1 e1 i1 h1=>⟨H1.z,ss,_,_,e1.sub,i1,h1,fun s v H2 e2 i2 f2 h2=>?_,fun y C H2 e2 hy hu=>⟨y,hy,hu,e1.hh.trans e2⟩⟩⟩
  exact ct.nx _ _ _ (r.mono (e1.trans e2)) h2
 case nx =>
  exact wpAny_execs_nil (wpAny_execs_nil ⟨_,H1,I1,q1⟩)
end
end L3
namespace L3
open PySem PySem.Spec PyProof.Rows L2
theorem Ei:PySem.bootBuiltins "ValueError"=some (.type "ValueError"):=by decide +kernel
section
variable {X:Cx}
theorem Yx {K:PySem.W.Frag}{mg:Str→Option Value}{y0:Str}{C0 Cx:Addr} (hm:mg y0=some (.ref C0)) (h:PySem.W.mroIn K C0 (.ref Cx)=some true):∀y C,y=y0→mg y=some (.ref C)→PySem.W.mroIn K C (.ref Cx)=some true:=fun y C e h1=>by
 subst e;rw[hm] at h1;cases h1;exact h
variable {e:Expr}{es:List Expr}{tr:TA3}
theorem PZ {k i:Nat}{n f cx y0:Str}{ps:List Str}{sp:Sp3}{Cx C0:Addr}{th:Addr→TS3}{pf pc pa np hp pt:Pos}{b0:Stmt}{suite:List Stmt} (hst:X.stack=X.env::X.outer) (hf:X.env.frame=some X.env.locals) (hno:∀e s,¬X.xe e s)
 (c:Cal X.prog X.w X.K X.mg X.base (CXU X.prog X.w) k f ps sp) (hr:Be k X.A) (hg:Gl X f) (ha:PA3 X (e::es) tr) (hN:X.N.Nodup) (hi:X.N[i]? = some n) (hx:Loc X.env.scope n) (hkl:X.env.kindOf n=some .local)
 (hgx:Gl X cx) (hm:X.mg cx=some (.ref Cx)) (hn:HnC X.K Cx) (hok:∀y C,y=y0→X.mg y=some (.ref C)→PySem.W.mroIn X.K C (.ref Cx)=some true) (hm0:X.mg y0=some (.ref C0)) (hh:∀ea oe,ExO oe C0→C4 (EW X ea oe) (b0::suite) (th ea))
 (hdb:(f==("__debug__":Str))=false:=by decide) (hd:(cx==("__debug__":Str))=false:=by decide) (he:starEach (e::es) X.env=(false,eval e X.env)::starEach es X.env:=by exact AI rfl) (hpl:(backTo pc (starEach es X.env)).any (·.1)=false:=by exact A1 rfl)
 (hs:swapsWith (.Call (.Name f pf) (e::es) [] pc) none pa.line X.env=pure false:=by rfl) (hfn:X.fn n=true∨X.env.scope.names.lookup n=some .local:=by first|exact .inl rfl|exact .inr rfl|assumption) (hpn:Bi X i:=by first|exact AZ rfl|exact A0 rfl ∅|assumption) :
 PS3 X (.Try [.Expr (.Call (.Name f pf) (e::es) [] pc) pa] [.ExceptHandler (some (.Name cx np)) (some n) (b0::suite) hp] [] [] pt) (S1 i sp (fun y=>y=y0) tr (fun ea _=>th ea)) :=
 QS (th:=fun ea _=>th ea) hst hf hno c hr hg ha hN hi hx hkl hgx hm hn hok (fun ea oe y C e h1 hO=>by subst e;rw[hm0] at h1;cases h1;exact hh ea oe hO) hdb hd he hpl hs hfn
end
end L3
namespace L3
open PySem PySem.Spec PyProof.Rows L2
section
variable {X:Cx}{st:Stmt}{rest':List Stmt}{t u:TS3}
def sGp (t u:TS3):TS3:=fun D3 τ=>∃P:Prop,t { D3 with nx:=fun τ'=>τ'=τ∧P } τ∧(P→u D3 τ)
theorem DP (h1:PS3 X st t)(h2:C4 X rest' u):C4 X (st::rest') (sGp t u):=⟨Bw (Hw h1 h2).out fun D2 σ H ⟨B,z,τ,D3,r,⟨P,ht,hu⟩,c⟩=>⟨B,_,τ,D3,r,⟨fun τ'=>τ'=τ∧P,ht,fun τ' ⟨e,hP⟩=>by subst e;exact hu hP⟩,c⟩⟩
end
end L3
namespace L3
open PySem PySem.Spec PyProof.Rows L2
theorem hu_ {A:Around}{k n:Nat} (hr:Be k A) (hn:n≤200):A.units+n<cLine:=by have:=hr.un;omega
section
variable {X:Cx}{pins:List (Addr×Obj)}{σ:St}{H:Hp}{s:Shared}
theorem JP (I:Inv X pins σ H s){n:Nat}{A:Around}{a b:Addr}{vs ws:List V}{xs ys:List D} (ha:SqT X.K H a vs) (hb:SqT X.K H b ws) (hx:Iss X.K H vs xs) (hy:Iss X.K H ws ys) (hu:A.units<cLine)
 (ih:∀(x y:D)(v u:V)(v' u':Value),x∈xs→y∈ys→Is X.K H v x→Is X.K H u y→AN v v'→AN u u'→SeqAt.EqAt A.in1 s v' u' (eqN n x y)):SeqAt.RcNeAt A s (.ref a) (.ref b) (!eqN (n+1) (.tup xs) (.tup ys)):=by
 obtain⟨its,r1,p1,_⟩:=I.tuple ha
 obtain⟨its2,r2,p2,_⟩:=I.tuple hb
 have l1:=r1.length
 have l2:=r2.length
 have k1:=hx.1
 have k2:=hy.1
 have key:=SeqAt.RcNeAt.tuples (A:=A) (s:=s) (l:=a) (b:=b) (items:=its.toArray) (items2:=its2.toArray) (e:=fun j=>match xs[j]?,ys[j]? with|some x,some y=>eqN n x y|_,_=>true) p1 p2 hu (fun j h1 h2=>by
  have h1':j<its.length:=by simpa using h1
  have h2':j<its2.length:=by simpa using h2
  have gx:xs[j]? = some (xs[j]' ()):=qAc ()
  have gy:ys[j]? = some (ys[j]' ()):=qAc ()
  have gv:vs[j]? = some (vs[j]' ()):=qAc ()
  have gw:ws[j]? = some (ws[j]' ()):=qAc ()
  obtain⟨u1,e1,q1⟩:=r1.get gv
  obtain⟨u2,e2,q2⟩:=r2.get gw
  rw[Bg h1 e1,Bg h2 e2]
  rw[gx,gy]
  exact ih _ _ _ _ _ _ (qAy gx) (qAy gy) (hx.2 j _ _ gv gx) (hy.2 j _ _ gw gy) q1 q2)
 have e:eqN (n+1) (.tup xs) (.tup ys)=((List.range (min its.toArray.size its2.toArray.size)).all (fun j=>match xs[j]?,ys[j]? with|some x,some y=>eqN n x y|_,_=>true)&&its.toArray.size==its2.toArray.size):=by
  show((xs.zip ys).all (fun p=>eqN n p.1 p.2)&&xs.length==ys.length)=_
  have s1:its.toArray.size=xs.length:=by simp;omega
  have s2:its2.toArray.size=ys.length:=by simp;omega
  rw[s1,s2]
  congr 1
  rw[qAW,qAp,qAp]
  constructor
  ·intro h j hj
   rw[qAV] at hj
   have gx:xs[j]? = some (xs[j]' ()):=qAc ()
   have gy:ys[j]? = some (ys[j]' ()):=qAc ()
   rw[gx,gy]
   exact h (_,_) (qAy (qAN.mpr ⟨gx,gy⟩))
  ·rintro h ⟨x,y⟩ hp
   obtain⟨j,hj⟩:=qBo hp
   obtain⟨gx,gy⟩:=qAN.mp hj
   have h1:=(qAj.mp gx).1
   have h2:=(qAj.mp gy).1
   have:=h j (by rw[qAV];omega)
   simp only[] at gx gy
   rw[gx,gy] at this
   exact this
 rw[e]
 exact key
def XR (n:Nat):R3:=fun dx dy R=>match dx,dy with
 |.tup xs,.tup ys=>Bl n (.tup xs)=true∧Bl n (.tup ys)=true∧R (.bl (!eqN n (.tup xs) (.tup ys)))
 |_,_=>False
theorem Y6 (n:Nat)(hu:X.A.units+n<cLine):Dx X (compareOp .NotEq) (XR n):=by
 intro pins s σ H x y v u Q I rx ry h
 obtain⟨z,dx,dy,R,hz,hx,hy,h3,q⟩:=h
 replace hx:=hx.mono hz
 replace hy:=hy.mono hz
 unfold XR at h3
 split at h3
 ·rename_i xs ys
  obtain⟨fx,fy,h3⟩:=h3
  cases n with
  |zero=>cases fx
  |succ n =>
   obtain⟨a,vs,rfl,ha,ia⟩:=Is.tup_inv hx
   obtain⟨b,ws,rfl,hb,ib⟩:=Is.tup_inv hy
   cases rx
   cases ry
   refine JP (A:=X.A) (n:=n) I ha hb ia ib () (fun x y v u v' u' mx my ix iy rv ru=>?_) X.prog X.w X.xe _ ⟨.bl _,H,I,rfl,q _ _ ⟨H,z⟩ (Ext.refl hz) (.bl _) h3⟩
   exact GR I n X.A.in1 x y v u v' u' (by show X.A.units+1+n<cLine;omega) (qAp.mp (show xs.all (Bl n)=true from fx) x mx) (qAp.mp (show ys.all (Bl n)=true from fy) y my) ix iy rv ru
 ·exact h3.elim
end
end L3
namespace L3
open PySem PySem.Spec PyProof.Rows L2
theorem DI {env:Env}:∀(names:List (Str×NameKind))(acc:List (Str×Addr)),(∀y∈names,y.2=.free→∃c,env.cells.lookup y.1=some c) →
 ∃cl,(forIn names acc fun(x:Str×NameKind)(r:List (Str×Addr))=>if (x.2 == .free)=true then (do let c ←cellOf env x.1;pure (ForInStep.yield ((x.1,c)::r)):Sem _) else pure (ForInStep.yield r))=pure cl ∧
  (∀y c,(y,c)∈cl→(y,c)∈acc∨env.cells.lookup y=some c)∧(∀y,(y,NameKind.free)∈names→∃c,(y,c)∈cl)∧∀p∈acc,p∈cl
 |[],acc,_=>⟨acc,rfl,fun y c h=>.inl h,(fun y h=>by cases h),fun p h=>h⟩
 |(n,k)::r,acc,h=>by
  rw[qBv]
  by_cases hk:(k==NameKind.free)=true
  ·have hk':k=.free:=by simpa using hk
   obtain⟨c,hc⟩:=h (n,k) qAt hk'
   obtain⟨cl,e,h1,h2,h3⟩:=DI r ((n,c)::acc) fun y hy=>h y (qAi _ hy)
   refine⟨cl,?_,fun y d hd=>?_,fun y hy=>?_,fun p hp=>h3 p (qAi _ hp)⟩
   ·have hco:cellOf env n=pure c:=by unfold cellOf;rw[hc]
    simp only[hk,if_true,hco,pure_bind]
    exact e
   ·rcases h1 y d hd with z|z
    ·rcases qAq.mp z with z|z
     ·cases z;exact .inr hc
     ·exact .inl z
    ·exact .inr z
   ·rcases qAq.mp hy with z|z
    ·cases z;exact⟨c,h3 _ qAt⟩
    ·exact h2 y z
  ·obtain⟨cl,e,h1,h2,h3⟩:=DI r acc fun y hy=>h y (qAi _ hy)
   refine⟨cl,?_,h1,fun y hy=>?_,h3⟩
   ·simp only[hk,qBe,if_false,pure_bind]
    exact e
   ·rcases qAq.mp hy with z|z
    ·cases z;exact absurd rfl hk
    ·exact h2 y z
theorem Bh {α:Type}{y:Str}{c:α}:∀{l:List (Str×α)},l.lookup y=some c→(y,c)∈l
 |[],h=>by cases h
 |(n,d)::r,h=>by
  rw[qBc] at h
  cases q:y==n with
  |true => rw[q] at h;cases h;have:y=n:=by simpa using q
           subst this;exact qAt
  |false=>rw[q] at h;exact qAi _ (Bh h)
theorem Fl {α:Type}{y:Str}{c:α}:∀{l:List (Str×α)},(y,c)∈l→∃d,l.lookup y=some d
 |(n,d)::r,h=>by
  rw[qBc]
  cases q:y==n with
  |true=>exact⟨d,rfl⟩
  |false =>
   rcases qAq.mp h with z|z
   ·cases z;simp at q
   ·exact Fl z
theorem Fd {scope:Scope}{env:Env} (h:∀y∈scope.names,y.2=.free→∃c,env.cells.lookup y.1=some c) :
 ∃cl,closureFor scope env=pure cl∧(∀y c,cl.lookup y=some c→env.cells.lookup y=some c)∧∀y,(y,NameKind.free)∈scope.names→∃c,cl.lookup y=some c:=by
 obtain⟨cl,e,h1,h2,_⟩:=DI scope.names [] h
 refine⟨cl,?_,fun y c hc=>?_,fun y hy=>?_⟩
 ·unfold closureFor
  first|(simp only[bind_pure];exact e)|exact e
 ·rcases h1 y c (Bh hc) with z|z
  ·cases z
  ·exact z
 ·obtain⟨c,hc⟩:=h2 y hy
  exact Fl hc
def AE (X:Cx)(N:List Str)(scope:Scope)(cl:List (Str×Addr))(C:Addr)(s₀:Shared)(H₀:Hp)(fp:List Addr):Cx :=
 { X with N:=N,s₀:=s₀,H₀:=H₀,env:=compEnvC scope cl C X.env,outer:=X.stack,ex:=fp,fn:=fun _=>false,pn:=[],xe:=fun _ _=>False,lent:=none }
theorem BY {env:Env}:∀{names:List (Str×NameKind)}{x:Str}{k:NameKind},(names.map fun(n,k)=>if (k==NameKind.free&&env.scope.kind == .function&&env.kindOf n==some .cell) then (n,NameKind.cell) else (n,k)).lookup x=some k →
 ∃k0,(x,k0)∈names∧(k=k0∨k0=.free)
 |[],_,_,h=>by cases h
 |(n,k1)::r,x,k,h=>by
  have h':List.lookup x ((if (k1==NameKind.free&&env.scope.kind == .function&&env.kindOf n==some .cell)=true then (n,NameKind.cell) else (n,k1))::(r.map fun(n,k)=>if (k==NameKind.free&&env.scope.kind == .function&&env.kindOf n==some .cell) then (n,NameKind.cell) else (n,k)))=some k:=h
  by_cases hc:(k1==NameKind.free&&env.scope.kind == .function&&env.kindOf n==some .cell)=true
  ·rw[if_pos hc,qBc] at h'
   have hk1:k1=.free:=by
    rw[qAF,qAF] at hc
    simpa using hc.1.1
   cases q:x==n with
   |true =>
    have:x=n:=by simpa using q
    subst this
    exact⟨k1,qAt,.inr hk1⟩
   |false =>
    rw[q] at h'
    obtain⟨k0,h1,h2⟩:=BY h'
    exact⟨k0,qAi _ h1,h2⟩
  ·rw[if_neg hc,qBc] at h'
   cases q:x==n with
   |true =>
    rw[q] at h'
    have:x=n:=by simpa using q
    subst this
    exact⟨k1,qAt,.inl (qAn h').symm⟩
   |false =>
    rw[q] at h'
    obtain⟨k0,h1,h2⟩:=BY h'
    exact⟨k0,qAi _ h1,h2⟩
theorem BI {env:Env}{y:Str} (hk:env.scope.kind=.function) (hy:env.kindOf y=some .cell):∀{names:List (Str×NameKind)},names.lookup y=some .free →
 (names.map fun(n,k)=>if (k==NameKind.free&&env.scope.kind == .function&&env.kindOf n==some .cell) then (n,NameKind.cell) else (n,k)).lookup y=some .cell
 |[],h=>by cases h
 |(n,k1)::r,h=>by
  show List.lookup y ((if (k1==NameKind.free&&env.scope.kind == .function&&env.kindOf n==some .cell)=true then (n,NameKind.cell) else (n,k1))::(r.map fun(n,k)=>if (k==NameKind.free&&env.scope.kind == .function&&env.kindOf n==some .cell) then (n,NameKind.cell) else (n,k)))=some .cell
  rw[qBc] at h
  cases q:y==n with
  |true =>
   rw[q] at h
   have:y=n:=by simpa using q
   subst this
   have hk1:k1=.free:=qAn h
   subst hk1
   rw[if_pos (by rw[hk,hy];rfl),qBc,q]
  |false =>
   rw[q] at h
   have ih:=BI hk hy h
   by_cases hc:(k1==NameKind.free&&env.scope.kind == .function&&env.kindOf n==some .cell)=true
   ·rw[if_pos hc,qBc,q];exact ih
   ·rw[if_neg hc,qBc,q];exact ih
structure BG (X:Cx)(x:Str)(scope:Scope)(N:List Str)(idx:List Nat):Prop where
 kind:scope.kind=.function
 cell:∀y∈scope.names,y.2≠.cell
 names:∀y∈scope.names,y.2=.local→scope.names.lookup y.1=some .local
 own:scope.names.lookup x=some .local
 free:∀y∈scope.names,y.2=.free→X.env.kindOf y.1=some .cell
 nd:N.Nodup
 fst:N[0]? = some x
 len:N.length=idx.length+1
 cap:∀(k j:Nat),idx[k]? = some j→∃y,N[k+1]? = some y∧X.N[j]? = some y∧scope.names.lookup y=some .free
def Dd {α:Type} (σ:List (Option α)) (idx:List Nat):List (Option α):=idx.map fun j=>(σ[j]?).getD none
theorem F5 {α:Type}{σ:List (Option α)}{idx:List Nat}{k:Nat}{v:α} (h:(Dd σ idx)[k]? = some (some v)):∃j,idx[k]? = some j∧σ[j]? = some (some v):=by
 unfold Dd at h
 rw[qAl] at h
 cases e:idx[k]? with
 |none=>rw[e] at h;cases h
 |some j =>
  rw[e] at h
  refine⟨j,rfl,?_⟩
  have h':(σ[j]?).getD none=some v:=qAn h
  cases q:σ[j]? with
  |none=>rw[q] at h';cases h'
  |some o=>rw[q] at h';rw[show o=some v from h']
section
variable {X:Cx}{pins:List (Addr×Obj)}{σ:St}{H2:Hp}{s2:Shared}{x:Str}{px:Pos}{scope:Scope}{N:List Str}{idx:List Nat}{J:It}{fp:List Addr}{it:Addr}{tn:Nat→Heap→Prop}{cl:List (Str×Addr)}
theorem Js (O:BG X x scope N idx)(I2:Inv X pins σ H2 s2)(T:MM X.prog X.w X.K (.Name x px) J fp it tn)(st2:tn 0 s2.heap)(f2:∀b∈fp,L9 X pins H2 b)
 (hcl:∀y c,cl.lookup y=some c→X.env.cells.lookup y=some c)(hcl2:∀y,(y,NameKind.free)∈scope.names→∃c,cl.lookup y=some c)
 {h1:Heap}{C:Addr}{m:Str→Option Value}{tk:Nat} (hC:s2.heap.objs.size<C) (hns:h1.Ns C m) (old:∀b o,s2.heap.get? b=some o→h1.get? b=some o)
 (hD:h1.get? s2.heap.objs.size=some { cls:=.type "list",data:=.seq ([]:List Value).toArray }) :
 Inv (AE X N scope cl C s2 H2 fp) [] (none::Dd σ idx) (upd H2 s2.heap.objs.size (.lst [])) { s2 with heap:=h1,toks:=tk }:=by
 have inHeap:∀b∈fp,b<s2.heap.objs.size:=fun b hb=>by
  obtain⟨o,e,_⟩:=T.obj 0 _ st2 b hb
  exact qAh e
 have hDn:H2 s2.heap.objs.size=none:=I2.hok.fresh (qAg _)
 refine⟨⟨I2.ok.mod,O.kind,I2.ok.glob,I2.ok.blt,?_,?_,?_,(fun _ _ z=>by cases z),I2.ok.hd,I2.ok.frames,.inl rfl,?_,fun b o e=>I2.bs b o e,qAE I2.ok.bsz I2.sz,?_,?_,I2.stack,I2.stkFree,I2.tb⟩,rfl,I2.bare,?_,⟨m,hns,?_⟩,?_,?_,?_,?_,?_,?_⟩
 ·exact qBi hC
 ·intro y z c h1 h2
  exact I2.ok.inj y z c (hcl y c h1) (hcl z c h2)
 ·intro y hy
  have key:∀k,(relabel scope X.env).names.lookup y=some k→(k=.cell∨k=.free)→∃c,cl.lookup y=some c:=fun k e hk=>by
   obtain⟨k0,h1,h2⟩:=BY e
   have hf:k0=.free:=by
    rcases h2 with rfl|h2
    ·rcases hk with rfl|rfl
     ·exact absurd rfl (O.cell _ h1)
     ·rfl
    ·exact h2
   subst hf
   exact hcl2 y h1
  rcases hy with e|e
  ·exact key _ e (.inl rfl)
  ·exact key _ e (.inr rfl)
 ·intro b hb
  have:=inHeap b hb
  exact⟨qAo (qBf this hC),fun y c e=>(f2 b hb).2.2.2.2.1 y c (hcl y c e)⟩
 ·intro b o e hb
  rcases(f2 b hb).2.2.2.1 with z|z
  ·exact I2.ok.noex b o e z
  ·exact absurd (qAr (qAh e) (qAE I2.ok.bsz z)) (qA3 _)
 ·intro b hb hf
  rcases qAq.mp (I2.stkSub b hf) with e|e
  ·exact(f2 b hb).2.1 e
  ·exact(f2 b hb).2.2.1 e
 ·exact Un.laid old (qAg _) hDn
 ·intro i y v e1 e2 e3
  cases i with
  |zero=>cases e2
  |succ k =>
   obtain⟨j,ej,es⟩:=F5 (k:=k) e2
   obtain⟨y',n1,n2,n3⟩:=O.cap k j ej
   have ey:y'=y:=qAn (n1.symm.trans e1)
   subst ey
   have kc:=O.free _ (Bh n3) rfl
   obtain⟨m0,hn0,hl0⟩:=I2.loc
   obtain⟨u,ru,lk⟩:=hl0 j y' v n2 es (.inr (.inl kc))
   refine⟨u,ru,?_⟩
   rcases lk with⟨k1,_⟩|⟨_,c,hc,ic⟩
   ·rw[kc] at k1;cases k1
   ·obtain⟨c',hc'⟩:=hcl2 y' (Bh n3)
    have:c'=c:=qAn ((hcl y' c' hc').symm.trans hc)
    subst this
    exact .inr ⟨.inl (BI I2.ok.kind kc n3),c',hc',ic.keeps old⟩
 ·intro y c e
  obtain⟨v,ic⟩:=I2.cell y c (hcl y c e)
  exact⟨v,ic.keeps old⟩
 ·show upd H2 _ _ C=none
  rw[Af (qBq hC)]
  exact I2.hok.fresh (qBi hC)
 ·intro y c e
  obtain⟨v,ic⟩:=I2.cell y c (hcl y c e)
  rw[Af (qAo ic.lt)]
  exact I2.freeC y c (hcl y c e)
 ·intro p hp;cases hp
 ·exact I2.hok.laid old (qAg _) ⟨qAw _,[],_,.nil,hD⟩
 ·show(none::Dd σ idx).length=N.length
  rw[O.len,qAd]
  unfold Dd
  rw[qAf]
theorem HC {σ':St}{H':Hp}{s':Shared}{pl:List (Addr×Obj)}{C:Addr}{h':Heap} (I2:Inv X pins σ H2 s2) (f2:∀b∈fp,L9 X pins H2 b) (hC:s2.heap.objs.size<C) (I':Inv (AE X N scope cl C s2 H2 fp) pl σ' H' s') (hs:Heap.SameBut C s'.heap h') :
 Inv X pins σ H' { s' with heap:=h' }:=by
 have ne:∀b o,s2.heap.get? b=some o→b≠C:=fun b o e=>qAo (qBf (qAh e) hC)
 have u:=I'.base
 refine Inv.call' (s':={ s' with heap:=h' }) (ch:=fp) I2 I'.os ⟨fun b o e n hb hx=>(hs.2 b (ne b o e)).trans (u.keep b o e n hb hx),fun b o e n hb hx=>?_,u.free,fun b o e hx=>?_,u.tups,u.frzs,u.tbls⟩ (fun b ob e=>?_) I'.bare (fun b hb=>⟨(f2 b hb).2.2.2.1,(f2 b hb).2.1,(f2 b hb).2.2.2.2.1,(f2 b hb).2.2.2.2.2⟩)
 ·obtain⟨sl,e1⟩:=u.slot b o e n hb hx
  exact⟨sl,(hs.2 b (ne b o e)).trans e1⟩
 ·obtain⟨o',e1⟩:=u.there b o e hx
  exact⟨o',(hs.2 b (ne b o e)).trans e1⟩
 ·refine(I'.hok b ob e).stay (fun c w' hc q=>(hs.2 c ?_).trans q) (fun _ q=>q) fun _ _ q=>q
  have hf:H' C=none:=I'.free
  rintro rfl
  rcases hc with rfl|hc
  ·rw[hf] at e;cases e
  ·rw[hf] at hc;cases hc
def Pn (X:Cx)(ifs:List Expr)(t:TT):Prop:=∀(pins:List (Addr×Obj))(s:Shared)(σ:St)(H:Hp)(Q:Bool→Hp→Prop),Inv X pins σ H s→t σ H Q →
 wpAny (model X.prog X.w) X.A (forIn ifs true fun c r=>if r=true then do let ok ←isTrue c X.env (eval c X.env);pure (ForInStep.yield ok) else pure (ForInStep.yield r)) (TP X pins σ Q) X.xe s
theorem Nv:Pn X [] (fun _ H Q=>Q true H):=fun pins s σ H Q I h=>wpAny_pure ⟨H,I,h⟩
theorem Me {c:Expr}{t:TT} (h:PT X c t):Pn X [c] t:=fun pins s σ H Q I hq=>by
 rw[qBv]
 simp only[if_true,bind_assoc,pure_bind]
 exact wpAny_bind (thn (h pins s σ H Q I hq) fun b s1 h1=>wpAny_pure h1)
def K1 (K:PySem.W.Frag)(idx:List Nat)(wi:TI)(tt:Hp→TT)(te:Hp→TE):TE:=fun σ H Q=>wi σ H fun J H1=>∀D,H1 D=none→K.lookup D=none→∃W:Nat→Nat→List V→Hp→Prop,(∃m,W 0 m [] (upd H1 D (.lst []))) ∧
 ∀i m ys H,H D=some (.lst ys)→W i m ys H→(J.stop i H∧Q (.ref D) H)∨(J.go i H∧∀x H',J.yld i H x H'→tt H1 (some x::Dd σ idx) H' fun b H2 =>
  if b=true then te H1 (some x::Dd σ idx) H2 (fun v H3=>H3 D=some (.lst ys)∧ys.length<sizeLine∧∃m',m'<m∧W (i+1) m' (ys++[v]) (upd H3 D (.lst (ys++[v])))) else H2 D=some (.lst ys)∧∃m',m'<m∧W (i+1) m' ys H2)
theorem Jf {elt iter:Expr}{ifs:List Expr}{wi:TI}{tt:Hp→TT}{te:Hp→TE}{pos:Pos}{s:Shared}{H:Hp}{Q:VK}{use:Option (Value→Sem Unit)}{QQ:Value→Shared→Prop} (O:BG X x scope N idx) (hc:X.calm=true) (hi:PI X (.Name x px) iter wi)
 (hifs:∀cl C s₀ H₀ fp,Pn (AE X N scope cl C s₀ H₀ fp) ifs (tt H₀)) (helt:∀cl C s₀ H₀ fp,PE (AE X N scope cl C s₀ H₀ fp) elt (te H₀))
 (hs:∀x,foldedSetIterable iter X.env x=pure x) (I:Inv X pins σ H s) (h:K1 X.K idx wi tt te σ H Q)
 (fin:∀(s2:Shared)(H2:Hp)(fp:List Addr)(cl:List (Str×Addr))(C D:Addr)(σ':St)(H':Hp)(s':Shared),Inv X pins σ H2 s2→(∀b∈fp,L9 X pins H2 b)→s2.heap.objs.size<C→Inv (AE X N scope cl C s2 H2 fp) [] σ' H' s'→Q (.ref D) H' →
  compPost (model X.prog X.w) X.A X.xe use QQ (.ref D) C (.ok .next) s') :
 wpAny (model X.prog X.w) X.A (comprehension (.ListComp elt [⟨.Name x px,iter,ifs,0⟩] scope pos) scope X.env (firstIterPos [⟨.Name x px,iter,ifs,0⟩] pos) (newList []) false (eval iter X.env) use) QQ X.xe s:=by
 obtain⟨cl,ecl,hcl,hcl2⟩:=Fd (scope:=scope) (env:=X.env) fun y hy hf=>I.ok.has y.1 (.inl (O.free y hy hf))
 refine wpAny_comprehension_free (use:=use) (cl:=cl) rfl hs ecl O.kind O.names ?_
 refine thn (hi pins s σ H _ I h) fun v s1 h1=>thn h1 fun itv s2 h2=>?_
 obtain⟨it,fp,tn,J,H2,rfl,I2,T,st2,f2,hD⟩:=h2
 refine wpAny_newObj_type (wpAny_newFunctionEnv O.cell (by intro y hy;simp at hy) (fun h1 hns hsb=>?_) O.kind)
 dsimp only at hns hsb ⊢
 generalize hG:s2.heap.push { cls:=.type "list",dict:=none,data:=.seq ([]:List Value).toArray }=G at hns hsb ⊢
 have hCs:s2.heap.objs.size<G.objs.size:=by rw[←hG,qBU];exact qB2 _
 have old:∀b o,s2.heap.get? b=some o→h1.get? b=some o:=fun b o e=>hsb.extBut b o (qAo (qBf (qAh e) hCs)) (qAb _ (hG ▸ qAb _ e))
 have hDl:h1.get? s2.heap.objs.size=some { cls:=.type "list",data:=.seq ([]:List Value).toArray }:=hsb.extBut _ _ (qAo hCs) (qAb _ (hG ▸ qAm _ rfl))
 have hDn:H2 s2.heap.objs.size=none:=I2.hok.fresh (qAg _)
 have hDk:X.K.lookup s2.heap.objs.size=none:=by
  cases e:X.K.lookup s2.heap.objs.size with
  |none=>rfl
  |some o=>exact absurd (qAh (I2.kIn _ _ e)) (qA3 _)
 obtain⟨W,⟨m0,w0⟩,step⟩:=hD _ hDn hDk
 have I4:Inv (AE X N scope cl G.objs.size s2 H2 fp) [] (none::Dd σ idx) (upd H2 s2.heap.objs.size (.lst [])) { s2 with heap:=h1,toks:=s2.toks+([]:List (Str×Value)).length } :=
  Js O I2 T st2 f2 hcl hcl2 hCs hns old hDl
 generalize hCC:G.objs.size=C at I4 hCs ⊢
 clear hsb hns hG hCC
 generalize hDD:s2.heap.objs.size=D at hDn hDk step w0 I4 hDl ⊢
 have st4:tn 0 h1:=T.keep 0 _ _ st2 fun b _ o e=>old b o e
 have frD:∀b∈fp,(upd H2 D (.lst [])) b=none:=fun b hb=>by
  obtain⟨o,e,_⟩:=T.obj 0 _ st2 b hb
  rw[Af (by rw[←hDD];exact qAo (qAh e))]
  exact(f2 b hb).1
 have stat:∀{H':Hp},(∀b∈fp,H' b=none)→∀b∈fp,L9 (AE X N scope cl C s2 H2 fp) [] H' b:=fun hn b hb =>
  ⟨hn b hb,(I4.ok.exf b hb).1,I4.ok.exfs b hb,.inl hb,(I4.ok.exf b hb).2,fun p hp=>by cases hp⟩
 have hloc:(AE X N scope cl C s2 H2 fp).env.scope.names.lookup x=some .local:=lookup_relabel_local O.own
 have loop:∀s3:Shared,s3={ s2 with heap:=h1,toks:=s2.toks+([]:List (Str×Value)).length } →
  codeAny (model X.prog X.w) X.A (.compLoop (.ListComp elt [⟨.Name x px,iter,ifs,0⟩] scope pos) 0 (.ref it) (.ref D) (compEnvC scope cl C X.env)) (compPost (model X.prog X.w) X.A X.xe use QQ (.ref D) C) s3:=by
  rintro s3 rfl
  refine codeAny_compLoop_tests (fun n s'=>∃i z H' ys,Inv (AE X N scope cl C s2 H2 fp) [] (z::Dd σ idx) H' s'∧tn i s'.heap∧(∀b∈fp,H' b=none)∧H' D=some (.lst ys)∧W i n ys H') ?_ m0 ⟨0,none,_,[],I4,st4,frD,Ac,w0⟩
  rintro n s5 ⟨i,z,H5,ys,I5,st5,fr5,hD5,w5⟩
  rcases step i n ys H5 hD5 w5 with⟨stop,q⟩|⟨go,next⟩
  ·refine wpAny_mono (T.done (AE X N scope cl C s2 H2 fp) rfl rfl rfl hc i [] s5 _ H5 (fun _ _=>False) I5 (stat fr5) st5 stop) (fun r s6 hh=>?_) fun _ _ z=>z.elim
   obtain⟨hr,I6⟩:=hh
   subst hr
   exact fin s2 H2 fp cl C D _ H5 s6 I2 f2 hCs I6 q
  ·refine wpAny_mono (T.item (AE X N scope cl C s2 H2 fp) rfl rfl rfl hc i [] s5 _ H5 (fun _ _=>False) I5 (stat fr5) st5 go) (fun r s6 hh=>?_) fun _ _ z=>z.elim
   obtain⟨u,hr,h6⟩:=hh
   subst hr
   dsimp only
   refine(show wpAny _ _ ((pure Unit.unit:Sem Unit) >>= fun _=>assign (.Name x px) (compEnvC scope cl C X.env) u) _ _ _ from wpAny_bind (wpAny_mono (show wpAny _ _ (pure Unit.unit:Sem Unit) _ _ _ from h6) (fun _ s7 h7=>?_) fun _ _ z=>z.elim))
   obtain⟨xv,H7,I7,r7,y7,st7,fr7⟩:=h7
   have I7':=I7.pinned (stat fr7) (T.obj _ _ st7)
   refine wpAny_assign_Name (BN (X:=AE X N scope cl C s2 H2 fp) I7' O.nd O.fst (.inl hloc) r7 (fun s8 I8=>?_) (.inr hloc))
   have again:∀{H9:Hp}{s9:Shared}{ys':List V}{m':Nat},Inv (AE X N scope cl C s2 H2 fp) ([]++GS fp s7.heap) (some xv::Dd σ idx) H9 s9→H9 D=some (.lst ys')→m'<n→W (i+1) m' ys' H9 →
    ∃m,m<n∧∃i z H' ys,Inv (AE X N scope cl C s2 H2 fp) [] (z::Dd σ idx) H' s9∧tn i s9.heap∧(∀b∈fp,H' b=none)∧H' D=some (.lst ys)∧W i m ys H':=fun {H9 s9 ys' m'} I9 hD9 hm w9=>by
    refine⟨m',hm,i+1,some xv,H9,ys',I9.unpinned,T.keep _ _ _ st7 fun b hb o e=>(I9.pin (b,o) (qAv _ (qAv _ (CV hb e)))).1,fun b hb=>?_,hD9,w9⟩
    obtain⟨o,e,d⟩:=T.obj _ _ st7 b hb
    exact(I9.pin (b,o) (qAv _ (qAv _ (CV hb e)))).2.1
   refine wpAny_mono (hifs cl C s2 H2 fp _ s8 _ H7 _ I8 (next xv H7 y7)) (fun b s9 hh=>?_) fun _ _ z=>z.elim
   obtain⟨H9,I9,q9⟩:=hh
   cases b with
   |true =>
    rw[if_pos rfl] at q9 ⊢
    refine wpAny_mono (helt cl C s2 H2 fp _ s9 _ H9 _ I9 q9) (fun y s10 hh=>?_) fun _ _ z=>z.elim
    obtain⟨v,H10,I10,r10,hD10,hl,m',hm,w'⟩:=hh
    refine wpAny_mono (Hb (X:=AE X N scope cl C s2 H2 fp) _ s10 _ H10 (.ref D) [v] (.ref D) [y] (fun _ H'=>H'=upd H10 D (.lst (ys++[v]))) I10 rfl (.cons r10 .nil) ⟨D,ys,v,rfl,rfl,hD10,hl,rfl⟩) (fun _ s11 hh=>?_) fun _ _ z=>z.elim
    obtain⟨_,H11,I11,_,e11⟩:=hh
    subst e11
    exact again I11 Ac hm w'
   |false =>
    rw[if_neg qAe] at q9 ⊢
    obtain⟨hD9,m',hm,w'⟩:=q9
    exact again I9 hD9 hm w'
 exact codeAny_compStart_list (loop _ rfl) (T.self X.A 0 _ _ _ st4 (loop _ rfl))
theorem LH {elt iter:Expr}{ifs:List Expr}{wi:TI}{tt:Hp→TT}{te:Hp→TE}{pos:Pos} (O:BG X x scope N idx) (hc:X.calm=true) (hi:PI X (.Name x px) iter wi)
 (hifs:∀cl C s₀ H₀ fp,Pn (AE X N scope cl C s₀ H₀ fp) ifs (tt H₀)) (helt:∀cl C s₀ H₀ fp,PE (AE X N scope cl C s₀ H₀ fp) elt (te H₀))
 (hs:∀x,foldedSetIterable iter X.env x=pure x:=by intro _;rfl):PE X (.ListComp elt [⟨.Name x px,iter,ifs,0⟩] scope pos) (K1 X.K idx wi tt te):=by
 intro pins s σ H Q I h
 rw[eval_ListComp]
 refine Jf (use:=none) O hc hi hifs helt hs I h fun s2 H2 fp cl C D σ' H' s' I2 f2 hC I' q=>?_
 obtain⟨m,hn,_⟩:=I'.loc
 exact⟨m,hn,fun h' hs'=>⟨.ref D,H',HC I2 f2 hC I' hs',rfl,q⟩⟩
theorem OX {C:Addr}{h':Heap}{H:Hp}{s:Shared} (I:Inv X pins σ H s) (hs:Heap.SameBut C s.heap h') (h0:X.s₀.heap.objs.size≤C) (hH:H C=none) (hL:C≠X.env.locals) (hc:∀y c,X.env.cells.lookup y=some c→c≠C) (hp:∀p∈X.pn++pins,p.1≠C) :
 Inv X pins σ H { s with heap:=h' }:=by
 obtain⟨m,hn,hl⟩:=I.loc
 have ne:∀b o,X.s₀.heap.get? b=some o→b≠C:=fun b o e=>qAo (qAr (qAh e) h0)
 refine⟨I.ok,I.os,I.bare,⟨fun b o e n hb hx=>(hs.2 b (ne b o e)).trans (I.base.keep b o e n hb hx),fun b o e n hb hx=>?_,I.base.free,fun b o e hx=>?_,I.base.tups,I.base.frzs,I.base.tbls⟩,⟨m,hn.sameBut hs (Ne.symm hL),fun i y v e1 e2 e3=>?_⟩,fun y c e=>?_,I.free,I.freeC,fun p hq=>?_,fun b ob e=>?_,I.len⟩
 ·obtain⟨sl,e1⟩:=I.base.slot b o e n hb hx
  exact⟨sl,(hs.2 b (ne b o e)).trans e1⟩
 ·obtain⟨o',e1⟩:=I.base.there b o e hx
  exact⟨o',(hs.2 b (ne b o e)).trans e1⟩
 ·obtain⟨u,ru,lk⟩:=hl i y v e1 e2 e3
  refine⟨u,ru,?_⟩
  rcases lk with lk|⟨k,c,e,ic⟩
  ·exact .inl lk
  ·exact .inr ⟨k,c,e,ic.sameBut hs (hc y c e)⟩
 ·obtain⟨v,ic⟩:=I.cell y c e
  exact⟨v,ic.sameBut hs (hc y c e)⟩
 ·obtain⟨e,n,ne',nf,d⟩:=I.pin p hq
  exact⟨(hs.2 p.1 (hp p hq)).trans e,n,ne',nf,d⟩
 ·refine(I.hok b ob e).stay (fun c w' hc' q=>(hs.2 c ?_).trans q) (fun _ q=>q) fun _ _ q=>q
  rintro rfl
  rcases hc' with rfl|hc'
  ·rw[hH] at e;cases e
  ·rw[hH] at hc';cases hc'
def T5 (i:Nat)(te:TE):TS:=fun D σ H=>te σ H fun v H1=>D.nx (σ.set i (some v)) H1
theorem E4 {i:Nat}{y:Str}{py spos:Pos}{elt iter:Expr}{ifs:List Expr}{wi:TI}{tt:Hp→TT}{te:Hp→TE}{pos:Pos} (O:BG X x scope N idx) (hc:X.calm=true) (hi:PI X (.Name x px) iter wi)
 (hifs:∀cl C s₀ H₀ fp,Pn (AE X N scope cl C s₀ H₀ fp) ifs (tt H₀)) (helt:∀cl C s₀ H₀ fp,PE (AE X N scope cl C s₀ H₀ fp) elt (te H₀)) (hN:X.N.Nodup) (hy:X.N[i]? = some y) (hly:Loc X.env.scope y)
 (hsw:swapsWith (.ListComp elt [⟨.Name x px,iter,ifs,0⟩] scope pos) (some (.Name y py)) spos.line X.env=pure true:=by rfl) (hs:∀x,foldedSetIterable iter X.env x=pure x:=by intro _;rfl)
 (hfn:X.fn y=true∨X.env.scope.names.lookup y=some .local:=by first|exact .inl rfl|exact .inr rfl|assumption) :
 PS X (.Assign [.Name y py] (.ListComp elt [⟨.Name x px,iter,ifs,0⟩] scope pos) spos) (T5 i (K1 X.K idx wi tt te)):=by
 intro pins s σ H D I h
 rw[exec_Assign_Name_used _ _ _ _ hsw]
 refine wpAny_bind (wpAny_standAt (wpAny_bind ?_))
 show wpAny _ X.A (do let _ ←comprehension (.ListComp elt [⟨.Name x px,iter,ifs,0⟩] scope pos) scope X.env _ (newList []) false (eval iter X.env) (some (assign (.Name y py) X.env))) _ _ s
 refine wpAny_bind (wpAny_mono (Jf (use:=some (assign (.Name y py) X.env)) (QQ:=fun _ s'=>SP X pins D .next s') O hc hi hifs helt hs I h fun s2 H2 fp cl C E σ' H' s' I2 f2 hC I' q=>?_) (fun _ s' hq=>wpAny_pure (wpAny_pure hq)) fun _ _ e=>e)
 have I3:Inv X pins σ H' s':=HC (h':=s'.heap) I2 f2 hC I' ⟨rfl,fun _ _=>rfl⟩
 obtain⟨mC,hnC,_⟩:=I'.loc
 have h0:X.s₀.heap.objs.size≤C:=qAE I2.sz (qBi hC)
 have hCL:C≠X.env.locals:=qBq (qBf I2.lt hC)
 have hCc:∀y c,X.env.cells.lookup y=some c→c≠C:=fun y c e=>by
  obtain⟨v,ic⟩:=I2.cell y c e
  exact qAo (qBf ic.lt hC)
 have hCp:∀p∈X.pn++pins,p.1≠C:=fun p hp=>qAo (qBf (qAh (I2.pin p hp).1) hC)
 show wpAny _ X.A (assign (.Name y py) X.env (.ref E)) _ _ _
 refine wpAny_assign_Name (Hl (v:=.ref E) I3 hN hy hly rfl (fun s4 I4 hb=>?_) hfn)
 obtain⟨a,hsa,ha⟩:=hb
 have hCa:C≠a:=by
  rcases ha with rfl|ha
  ·exact hCL
  ·exact fun z=>hCc y a ha z.symm
 exact⟨mC,hnC.sameBut hsa hCa,fun h' hs'=>⟨_,H',OX I4 hs' h0 I'.free hCL hCc hCp,q⟩⟩
end
abbrev TX3:=Tau→(List D→Prop)→Prop
def Src (X:Cx)(wi:TI)(ws:TX3):Prop:=∀(B:HZ)(τ:Tau)(σ:St)(H z:Hp)(P:List D→Prop)(R:It→Hp→Prop),Rep X B τ σ ⟨H,z⟩→ws τ P →
 (∀(J:It)(q:HZ)(xs:List D),Ext ⟨H,z⟩ q→P xs→(∀H',AU q.h H'→(∀i,i<xs.length→J.go i H'∧∀x H'',J.yld i H' x H''→H''=H'∧∃d,xs[i]? = some d∧Is X.K q.z x d)∧∀i,xs.length≤i→J.stop i H')→R J q.h)→wi σ H R
def YD (te:TE3):TX3:=fun τ P=>te τ fun s=>match items s with
 |some xs=>P xs
 |none=>False
theorem Fs {X:Cx}{q:HZ}{a:Addr}{vs:List V}{xs:List D} (h:SqL X.K q.h a vs) (hi:Iss X.K q.z vs xs):∀H',AU q.h H'→(∀i,i<xs.length→(Itl X.K a).go i H'∧∀x H'',(Itl X.K a).yld i H' x H''→H''=H'∧∃d,xs[i]? = some d∧Is X.K q.z x d)∧∀i,xs.length≤i→(Itl X.K a).stop i H':=by
 intro H' e
 have h':SqL X.K H' a vs:=e.seq h
 refine⟨fun i hlt=>⟨⟨vs,vs[i]'(by rw[hi.1];exact hlt),h',qAc (by rw[hi.1];exact hlt)⟩,fun x H'' hy=>⟨hy.1,?_⟩⟩,fun i hle=>⟨vs,h',by rw[hi.1];exact hle⟩⟩
 obtain⟨d,h1,h2⟩:=Df hi (hy.2 vs h')
 exact⟨d,h1,h2⟩
theorem OQ {X:Cx}{q:HZ}{a:Addr}{vs:List V}{xs:List D} (h:SqT X.K q.h a vs) (hi:Iss X.K q.z vs xs):∀H',AU q.h H'→(∀i,i<xs.length→(Itt X.K a).go i H'∧∀x H'',(Itt X.K a).yld i H' x H''→H''=H'∧∃d,xs[i]? = some d∧Is X.K q.z x d)∧∀i,xs.length≤i→(Itt X.K a).stop i H':=by
 intro H' e
 have h':SqT X.K H' a vs:=SqT.same e h
 refine⟨fun i hlt=>⟨⟨vs,vs[i]'(by rw[hi.1];exact hlt),h',qAc (by rw[hi.1];exact hlt)⟩,fun x H'' hy=>⟨hy.1,?_⟩⟩,fun i hle=>⟨vs,h',by rw[hi.1];exact hle⟩⟩
 obtain⟨d,h1,h2⟩:=Df hi (hy.2 vs h')
 exact⟨d,h1,h2⟩
section
variable {X:Cx}{e:Expr}{te:TE3}{ta:TA3}
theorem Ub:Src X (SW X.K (FE X te)) (YD te):=by
 intro B τ σ H z P R r ht k
 refine⟨B,z,τ,_,r,ht,fun s v H1 e1 i1 f1 h1=>?_⟩
 try dsimp only at h1
 split at h1
 ·rename_i xs hx
  cases s with
  |d z =>
   cases z with
   |tup zs =>
    cases hx
    obtain⟨p,vs,rfl,h3,h4⟩:=Is.tup_inv i1
    exact⟨p,rfl,.inr ⟨⟨vs,SqT.same e1.sub h3⟩,k _ H1 _ e1 h1 (OQ (SqT.same e1.sub h3) h4)⟩⟩
   |lst zs =>
    cases hx
    obtain⟨p,vs,rfl,h3,h4⟩:=Is.lst_inv i1
    exact⟨p,rfl,.inl ⟨⟨vs,e1.sub.seq h3⟩,k _ H1 _ e1 h1 (Fs (e1.sub.seq h3) h4)⟩⟩
   |_=>cases hx
  |l zs =>
   cases hx
   obtain⟨p,vs,rfl,h3,h4⟩:=i1
   exact⟨p,rfl,.inl ⟨⟨vs,SqL.of h3⟩,k _ H1 _ e1 h1 (Fs (SqL.of h3) h4)⟩⟩
  |r zs =>
   cases hx
   obtain⟨p,vs,rfl,h3,h4⟩:=i1
   exact⟨p,rfl,.inl ⟨⟨vs,h3⟩,k _ H1 _ e1 h1 (Fs h3 h4)⟩⟩
 ·exact h1.elim
def Oa (lo st:Int)(n:Nat):List D:=(List.range n).map fun(i:Nat)=>D.int (lo+i*st)
theorem BU (lo st:Int)(n:Nat):(Oa lo st n).length=n:=by unfold Oa;rw[qAf,qBl]
theorem DW {lo st:Int}{n i:Nat} (h:i<n):(Oa lo st n)[i]? = some (.int (lo+i*st)):=by
 unfold Oa
 rw[qAl,qCc h]
 rfl
def Vl (ta:TA3):TX3:=fun τ P=>ta τ fun ss=>match ss with
 |[.d (.int j)]=>(-(2^62)≤j∧j<2^62)∧P (Oa 0 1 j.toNat)
 |_=>False
def VT (ta:TA3):TX3:=fun τ P=>ta τ fun ss=>match ss with
 |[.d (.int i),.d (.int j)]=>(-(2^62)≤i∧i<2^62∧-(2^62)≤j∧j<2^62)∧P (Oa i 1 (j-i).toNat)
 |_=>False
def UN (ta:TA3):TX3:=fun τ P=>ta τ fun ss=>match ss with
 |[.d (.int a),.d (.int b),.d (.int c)]=>(c≠0∧c.natAbs<1073741824∧Builtin.Range.small a b c=true∧0≤Builtin.Range.rangeSize a b c)∧P (Oa a c (Builtin.Range.rangeSize a b c).toNat)
 |_=>False
theorem MW:Src X (MD (FA X ta)) (Vl ta):=by
 intro B τ σ H z P R r ht k
 refine⟨B,z,τ,_,r,ht,fun ss vs H1 e1 i1 h1=>?_⟩
 try dsimp only at h1
 split at h1
 ·rename_i j
  obtain⟨v,rfl,hv⟩:=Ef i1
  cases Is.int_inv hv
  obtain⟨⟨q1,q2⟩,hP⟩:=h1
  refine⟨j,rfl,q1,q2,k _ H1 _ e1 hP fun H' e=>⟨fun i hlt=>?_,fun i hle=>?_⟩⟩
  ·rw[BU] at hlt
   refine⟨hlt,fun x H'' hy=>⟨hy.1,_,DW hlt,?_⟩⟩
   rw[hy.2,qCh]
   exact .int _
  ·rw[BU] at hle;exact hle
 ·exact h1.elim
theorem TF:Src X (Qi (FA X ta)) (VT ta):=by
 intro B τ σ H z P R r ht k
 refine⟨B,z,τ,_,r,ht,fun ss vs H1 e1 i1 h1=>?_⟩
 try dsimp only at h1
 split at h1
 ·rename_i i0 j
  obtain⟨v,u,rfl,hv,hu⟩:=MI i1
  cases Is.int_inv hv
  cases Is.int_inv hu
  obtain⟨q,hP⟩:=h1
  refine⟨i0,j,rfl,q,k _ H1 _ e1 hP fun H' e=>⟨fun i hlt=>?_,fun i hle=>?_⟩⟩
  ·rw[BU] at hlt
   refine⟨hlt,fun x H'' hy=>⟨hy.1,_,DW hlt,?_⟩⟩
   rw[hy.2,qCh]
   exact .int _
  ·rw[BU] at hle;exact hle
 ·exact h1.elim
theorem T1:Src X (PH (FA X ta)) (UN ta):=by
 intro B τ σ H z P R r ht k
 refine⟨B,z,τ,_,r,ht,fun ss vs H1 e1 i1 h1=>?_⟩
 try dsimp only at h1
 split at h1
 ·rename_i a b c
  obtain⟨v,u,w,rfl,hv,hu,hw⟩:=RL i1
  cases Is.int_inv hv
  cases Is.int_inv hu
  cases Is.int_inv hw
  obtain⟨q,hP⟩:=h1
  refine⟨a,b,c,rfl,q,k _ H1 _ e1 hP fun H' e=>⟨fun i hlt=>?_,fun i hle=>?_⟩⟩
  ·rw[BU] at hlt
   refine⟨hlt,fun x H'' hy=>⟨hy.1,_,DW hlt,?_⟩⟩
   rw[hy.2]
   exact .int _
  ·rw[BU] at hle;exact hle
 ·exact h1.elim
end
def Nb (τ:Tau)(idx:List Nat)(x:D):Tau:=some (.d x)::(Dd τ idx).map (Option.map S.share)
structure Im (X:Cx)(ifs:List Expr)(t:TT3):Prop where
 out:Pn X ifs (FT X t)
def Zb:TT3:=fun _ R=>R true
theorem O3 {X:Cx}:Im X [] Zb:=⟨fun pins s σ H Q I ⟨B,z,τ,R,r,ht,q⟩=>Nv pins s σ H Q I (q true ⟨H,z⟩ (Ext.refl r.ext.sub) ht)⟩
theorem Pl {X:Cx}{c:Expr}{t:TT3} (h:PT3 X c t):Im X [c] t:=⟨Me h.out⟩
abbrev cxC (X:Cx)(N:List Str)(scope:Scope)(H₀:Hp):Cx:=AE X N scope [] 0 X.s₀ H₀ []
section
variable {X:Cx}{x:Str}{px pos:Pos}{scope:Scope}{N:List Str}{idx:List Nat}{cl:List (Str×Addr)}{C:Addr}{s₀:Shared}{H₀ H H':Hp}{fp:List Addr}{σ:St}{τ:Tau}
theorem Oh {B p:HZ} (r:Rep (cxC X N scope H₀) B τ σ p):Rep (AE X N scope cl C s₀ H₀ fp) B τ σ p:=⟨r.len,r.ext,r.val,r.own,r.sep,r.top,r.pin⟩
theorem MO {α β:Type} (a:List (Option α)) (b:List (Option β)) (idx:List Nat):(Dd a idx).length=(Dd b idx).length:=by unfold Dd;rw[qAf,qAf]
theorem IU {B p p0 q:HZ}{d:D}{v:V} (r:Rep X B τ σ p) (e:Ext p p0) (e':Ext p0 q) (iv:Is X.K q.z v d):Rep (cxC X N scope p0.h) p0 (Nb τ idx d) (some v::Dd σ idx) q:=by
 have no:∀(i:Nat)(xs:List D),¬(Nb τ idx d)[i]? = some (some (.l xs)):=fun i xs z=>by
  cases i with
  |zero=>cases z
  |succ k =>
   have z':((Dd τ idx).map (Option.map S.share))[k]? = some (some (.l xs)):=z
   rw[qAl] at z'
   cases q:(Dd τ idx)[k]? with
   |none=>rw[q] at z';cases z'
   |some o =>
    rw[q] at z'
    cases o with
    |none=>cases z'
    |some s0 =>
     have z2:s0.share=.l xs:=qAn (qAn z')
     cases s0<;>cases z2
 refine⟨?_,e',fun i s hs=>?_,fun i xs a z _=>absurd z (no i xs),fun i j xs s a _ z _ _ _=>absurd z (no i xs),fun _=>AU.refl _,fun k a h=>by cases h⟩
 ·unfold Nb
  rw[qAd,qAd,qAf,MO]
 ·cases i with
  |zero =>
   cases hs
   exact⟨v,rfl,iv⟩
  |succ k =>
   have z':((Dd τ idx).map (Option.map S.share))[k]? = some (some s):=hs
   rw[qAl] at z'
   cases q:(Dd τ idx)[k]? with
   |none=>rw[q] at z';cases z'
   |some o =>
    rw[q] at z'
    cases o with
    |none=>cases z'
    |some s0 =>
     have z2:s0.share=s:=qAn (qAn z')
     obtain⟨j,hj,hτ⟩:=F5 q
     obtain⟨w,hw,iw⟩:=r.val j s0 hτ
     refine⟨w,?_,?_⟩
     ·show(Dd σ idx)[k]? = some (some w)
      unfold Dd
      rw[qAl,hj]
      show some ((σ[j]?).getD none)=_
      rw[hw]
      rfl
     ·rw[←z2]
      exact(iw.mono (e.trans e')).share
end
def PU (idx:List Nat)(ws:TX3)(tt:TT3)(te:TE3):TE3:=fun τ R=>ws τ fun xs=>∃os:List (Option D),os.length=xs.length ∧
 (∀(n:Nat)(x:D),xs[n]? = some x→tt (Nb τ idx x) fun b=>if b=true then te (Nb τ idx x) (fun s=>dd s.arg fun y=>os[n]? = some (some y)) else os[n]? = some none)∧xs.length≤100000∧R (.l (os.filterMap id))
section
variable {X:Cx}{x:Str}{px pos:Pos}{scope:Scope}{N:List Str}{idx:List Nat}{elt iter:Expr}{ifs:List Expr}{wi:TI}{ws:TX3}{tt:TT3}{te:TE3}
theorem IQ (hsrc:Src X wi ws){σ:St}{H:Hp}{Q:VK} (h:FE X (PU idx ws tt te) σ H Q):K1 X.K idx wi (fun H₀=>FT (cxC X N scope H₀) tt) (fun H₀=>FE (cxC X N scope H₀) te) σ H Q:=by
 obtain⟨B,z,τ,R,r,ht,q⟩:=h
 refine hsrc B τ σ H z _ _ r ht fun J p1 xs e1 hP hJ=>fun D' hD hK=>?_
 obtain⟨os,hlen,hel,hsz,hR⟩:=hP
 have sz:(100000:Nat)<sizeLine:=∅
 refine⟨fun i m ys H'=>m=xs.length-i∧i≤xs.length∧∃z',Ext p1 ⟨H',z'⟩∧z' D'=none∧Iss X.K z' ys ((os.take i).filterMap id),⟨xs.length,rfl,qAw _,p1.z,Ext.own e1.sub hD _,e1.sub.free hD,Iss.nil⟩,?_⟩
 rintro i m ys H' hD' ⟨rfl,hi,z',hs,hzD,hiss⟩
 by_cases hlt:i<xs.length
 ·obtain⟨go,yl⟩:=(hJ H' hs.hh).1 i hlt
  refine .inr ⟨go,fun v H'' hy=>?_⟩
  obtain⟨rfl,d,hx,iv⟩:=yl v H'' hy
  have rr:Rep (cxC X N scope p1.h) p1 (Nb τ idx d) (some v::Dd σ idx) ⟨H'',z'⟩:=IU r e1 hs (iv.mono hs.zz)
  have hys:ys.length≤i:=by
   rw[hiss.1]
   refine qAE (List.length_filterMap_le _ _) ?_
   rw[qAu];omega
  have keep:∀q:HZ,Ext ⟨H'',z'⟩ q→q.z D'=none:=fun q e=>by
   cases y:q.z D' with
   |none=>rfl
   |some o =>
    rcases e.new D' o y with y|y
    ·exact nomatch (hzD.symm.trans y)
    ·exact nomatch (hD'.symm.trans y)
  refine⟨_,_,_,_,rr,hel i d hx,fun b q3 e3 hb=>?_⟩
  cases b with
  |true =>
   rw[if_pos rfl] at hb ⊢
   refine⟨_,_,_,_,rr.mono e3,hb,fun s v2 q4 e4 i4 f4 h4=>?_⟩
   obtain⟨y,hy',h4⟩:=Cm h4
   obtain⟨z5,e5,i5⟩:=Dc e4 i4 f4
   rw[hy'] at i5
   have e35:=e3.trans e5
   have hD4:q4.h D'=some (.lst ys):=e35.hh _ _ hD'
   have hz5:z5 D'=none:=keep _ e35
   refine⟨hD4,(),xs.length-(i+1),(),rfl,hlt,z5,?_,hz5,?_⟩
   ·have e15:=hs.trans e35
    refine⟨fun b o hb'=>?_,e15.zz,fun b o hb'=>?_,e15.new⟩
    ·have hne:b≠D':=by rintro rfl;rw[hD] at hb';cases hb'
     show upd q4.h D' _ b=some o
     rw[Af hne]
     exact e15.hh b o hb'
    ·have hne:b≠D':=by
      rintro rfl
      have hb2:z5 b=some o:=hb'
      rw[hz5] at hb2;cases hb2
     show upd q4.h D' _ b=some o
     rw[Af hne]
     exact e15.sub b o hb'
   ·rw[qBm,h4,qB3]
    exact(hiss.mono e35.zz).snoc i5
  |false =>
   rw[if_neg qAe] at hb ⊢
   refine⟨e3.hh _ _ hD',xs.length-(i+1),(),rfl,hlt,q3.z,hs.trans e3,keep _ e3,?_⟩
   rw[qBm,hb,qB3]
   have:([none]:List (Option D)).filterMap id=[]:=rfl
   show Iss X.K q3.z ys ((os.take i).filterMap id++([none]:List (Option D)).filterMap id)
   rw[this,qA0]
   exact hiss.mono e3.zz
 ·have ei:i=xs.length:=()
  subst ei
  refine .inl ⟨(hJ H' hs.hh).2 _ (qAg _),q (.l (os.filterMap id)) _ ⟨H',z'⟩ (e1.trans hs) ⟨D',ys,rfl,hD',?_⟩ (fun xs a _ h2=>?_) hR⟩
  ·rw[←hlen,qCu] at hiss
   exact hiss
  ·cases h2
   exact⟨e1.hh.free hD,hK,hzD⟩
theorem Gd (hifs:∀cl C s₀ H₀ fp,Im (AE X N scope cl C s₀ H₀ fp) ifs tt):∀cl C s₀ H₀ fp,Pn (AE X N scope cl C s₀ H₀ fp) ifs (FT (cxC X N scope H₀) tt):=fun cl C s₀ H₀ fp pins s σ H Q I ⟨B,z,τ,R,r,ht,q⟩ =>
 (hifs cl C s₀ H₀ fp).out pins s σ H Q I ⟨B,z,τ,R,Oh r,ht,q⟩
theorem Gg (helt:∀cl C s₀ H₀ fp,PE3 (AE X N scope cl C s₀ H₀ fp) elt te):∀cl C s₀ H₀ fp,PE (AE X N scope cl C s₀ H₀ fp) elt (FE (cxC X N scope H₀) te):=fun cl C s₀ H₀ fp pins s σ H Q I ⟨B,z,τ,R,r,ht,q⟩ =>
 (helt cl C s₀ H₀ fp).out pins s σ H Q I ⟨B,z,τ,R,Oh r,ht,q⟩
theorem QK (O:BG X x scope N idx)(hc:X.calm=true)(hi:PI X (.Name x px) iter wi)(hsrc:Src X wi ws)(hifs:∀cl C s₀ H₀ fp,Im (AE X N scope cl C s₀ H₀ fp) ifs tt)(helt:∀cl C s₀ H₀ fp,PE3 (AE X N scope cl C s₀ H₀ fp) elt te)
 (hs:∀x,foldedSetIterable iter X.env x=pure x:=by intro _;rfl):PE3 X (.ListComp elt [⟨.Name x px,iter,ifs,0⟩] scope pos) (PU idx ws tt te) :=
 ⟨Al (LH O hc hi (Gd hifs) (Gg helt) hs) fun σ H Q h=>IQ hsrc h⟩
theorem Xd {i:Nat}{y:Str}{py spos:Pos} (O:BG X x scope N idx) (hc:X.calm=true) (hi:PI X (.Name x px) iter wi) (hsrc:Src X wi ws) (hifs:∀cl C s₀ H₀ fp,Im (AE X N scope cl C s₀ H₀ fp) ifs tt) (helt:∀cl C s₀ H₀ fp,PE3 (AE X N scope cl C s₀ H₀ fp) elt te)
 (hN:X.N.Nodup) (hy:X.N[i]? = some y) (hly:Loc X.env.scope y)
 (hsw:swapsWith (.ListComp elt [⟨.Name x px,iter,ifs,0⟩] scope pos) (some (.Name y py)) spos.line X.env=pure true:=by rfl) (hs:∀x,foldedSetIterable iter X.env x=pure x:=by intro _;rfl)
 (hfn:X.fn y=true∨X.env.scope.names.lookup y=some .local:=by first|exact .inl rfl|exact .inr rfl|assumption) (hp:Bi X i:=by first|exact AZ rfl|exact A0 rfl ∅|assumption) :
 PS3 X (.Assign [.Name y py] (.ListComp elt [⟨.Name x px,iter,ifs,0⟩] scope pos) spos) (Td i (PU idx ws tt te)) :=
 ⟨AF (E4 O hc hi (Gd hifs) (Gg helt) hN hy hly hsw hs hfn) fun D2 σ H hh=>by obtain⟨B,z,τ,D3,r,ht,c⟩:=hh;exact IQ hsrc ⟨B,z,τ,_,r,ht,fun s v H' e i f h=>by
  cases s with
  |r _=>exact h.elim
  |d y=>exact c.nx _ _ _ (r.set e i f rfl hp) h
  |l ys=>exact c.nx _ _ _ (r.set e i f rfl hp) h⟩⟩
end
end L3
namespace L3
open PySem PySem.Spec PyProof.Rows L2
def IX (fN:List Str)(scope:Scope)(N:List Str):Nat→List Nat→Bool
 |_,[]=>true
 |k,j::r=>(match N[k+1]?,fN[j]? with
  |some y,some y'=>y==y'&&(scope.names.lookup y==some NameKind.free)
  |_,_=>false)&&IX fN scope N (k+1) r
def KC (fsc:Scope)(fN:List Str)(x:Str)(scope:Scope)(N:List Str)(idx:List Nat):Bool :=
 (scope.kind == .function)&&scope.names.all (fun y=>!(y.2 == .cell))&&scope.names.all (fun y=>!(y.2 == .local)||scope.names.lookup y.1==some .local)&&(scope.names.lookup x==some NameKind.local) &&
 scope.names.all (fun y=>!(y.2 == .free)||fsc.names.lookup y.1==some .cell)&&decide N.Nodup&&(N[0]? == some x)&&(N.length==idx.length+1)&&IX fN scope N 0 idx
theorem N5 {fN:List Str}{scope:Scope}{N:List Str}:∀{idx:List Nat}{k0:Nat},IX fN scope N k0 idx=true→∀(k j:Nat),idx[k]? = some j→∃y,N[k0+k+1]? = some y∧fN[j]? = some y∧scope.names.lookup y=some .free
 |[],_,_,_,_,h=>by simp at h
 |i::r,k0,h,k,j,hk=>by
  unfold IX at h
  rw[qAF] at h
  cases k with
  |zero =>
   have e:i=j:=by simpa using hk
   subst e
   obtain⟨h1,_⟩:=h
   split at h1
   ·rename_i y y' e1 e2
    rw[qAF] at h1
    have ey:y=y':=by simpa using h1.1
    subst ey
    exact⟨y,e1,e2,by simpa using h1.2⟩
   ·cases h1
  |succ k =>
   obtain⟨y,a,b,c⟩:=N5 h.2 k j (by simpa using hk)
   exact⟨y,by rw[←a];congr 1;omega,b,c⟩
theorem BG.mk' {X:Cx}{x:Str}{scope:Scope}{N:List Str}{idx:List Nat} (fsc:Scope) (fN:List Str) (h1:X.env.scope=fsc) (h2:X.N=fN) (h:KC fsc fN x scope N idx=true):BG X x scope N idx:=by
 subst h1 h2
 unfold KC at h
 simp only[qAF] at h
 obtain⟨⟨⟨⟨⟨⟨⟨⟨a1,a2⟩,a3⟩,a4⟩,a5⟩,a6⟩,a7⟩,a8⟩,a9⟩:=h
 refine⟨by simpa using a1,fun y hy=>?_,fun y hy hl=>?_,by simpa using a4,fun y hy hf=>?_,by simpa using a6,by simpa using a7,by simpa using a8,fun k j hk=>?_⟩
 ·have:=qAp.mp a2 y hy
  simpa using this
 ·have:=qAp.mp a3 y hy
  rw[hl] at this
  simpa using this
 ·have:=qAp.mp a5 y hy
  rw[hf] at this
  show X.env.scope.names.lookup y.1=some .cell
  simpa using this
 ·have:=N5 a9 k j hk
  simpa using this
end L3
namespace L3
open PySem PySem.Spec PyProof.Rows L2
section
variable {X:Cx}{e a b c:Expr}{te ta tb tc:TE3}{pos:Pos}
theorem NM {t:TE} (h:PE X e t):PE X e (fun σ H Q=>t σ H fun v H'=>(∀a o,H' a=some o→X.K.lookup a=none)→Q v H'):=fun pins s σ H Q I q =>
 thn (h pins s σ H _ I q) fun u s1 ⟨v,H1,I1,r1,q1⟩=>⟨v,H1,I1,r1,q1 fun a o e=>by
  cases y:X.K.lookup a with
  |none=>rfl
  |some o' =>
   have:=(I1.bs a o' (I1.ok.mod.kin a o' y)).2
   rw[e] at this
   cases this⟩
def Ln:D→Bool
 |.non=>true
 |_=>false
theorem G0 {K:PySem.W.Frag}{z:Hp}{v:V}{x:D} (h:Is K z v x):decide (v=.non)=Ln x:=by cases h<;>rfl
def Xy:R3:=fun dx dy R=>match dy with
 |.non=>R (.bl (Ln dx))
 |_=>False
def Sw:R3:=fun dx dy R=>match dy with
 |.non=>R (.bl (!Ln dx))
 |_=>False
theorem Yp:Dx X (compareOp .Is) Xy:=Bu RG fun x y H Q hh=>by
 obtain⟨z,dx,dy,R,hz,hx,hy,h3,q⟩:=hh
 unfold Xy at h3
 split at h3
 ·exact⟨hy.non_inv,q _ _ ⟨H,z⟩ (Ext.refl hz) (.bl _) (by rw[G0 hx];exact h3)⟩
 ·exact h3.elim
theorem Wg:Dx X (compareOp .IsNot) Sw:=Bu OS fun x y H Q hh=>by
 obtain⟨z,dx,dy,R,hz,hx,hy,h3,q⟩:=hh
 unfold Sw at h3
 split at h3
 ·exact⟨hy.non_inv,q _ _ ⟨H,z⟩ (Ext.refl hz) (.bl _) (by rw[G0 hx];exact h3)⟩
 ·exact h3.elim
def Xf:R3:=fun dx dy R=>match dx,dy with
 |.tup xs,.tup ys=>xs≠[]∧xs.length+ys.length≤100000∧R (.tup (xs++ys))
 |.lst xs,.lst ys=>xs.length+ys.length≤100000∧R (.lst (xs++ys))
 |.int i,.int j=>R (.int (i+j))
 |_,_=>False
theorem Iss.append {K:PySem.W.Frag}{H:Hp}{vs ws:List V}{xs ys:List D} (h:Iss K H vs xs) (h':Iss K H ws ys):Iss K H (vs++ws) (xs++ys):=by
 refine⟨by simp[h.1,h'.1],fun i v x h1 h2=>?_⟩
 by_cases hi:i<vs.length
 ·rw[qAI hi] at h1
  rw[qAI (by have:=h.1;omega)] at h2
  exact h.2 i v x h1 h2
 ·rw[qAL ()] at h1
  rw[qAL (by have:=h.1;omega)] at h2
  have:=h.1
  exact h'.2 (i-vs.length) v x h1 (by rw[this];exact h2)
theorem EI {K:PySem.W.Frag}{H:Hp}{vs:List V}{xs:List D} (h:Iss K H vs xs):vs=[] ↔ xs=[]:=by
 have:=h.1
 constructor
 ·rintro rfl;exact qAA (by simpa using this.symm)
 ·rintro rfl;exact qAA (by simpa using this)
theorem Ym:Dx X (binaryOp .Add) Xf:=Bu ((PN.or RJ).or Oo) fun x y H Q hh=>by
 obtain⟨z,dx,dy,R,hz,hx,hy,h3,q⟩:=hh
 have sz:(100000:Nat)<sizeLine:=∅
 unfold Xf at h3
 split at h3
 ·rename_i xs ys
  obtain⟨h1,h2,h3⟩:=h3
  obtain⟨p,vs,rfl,g1,g2⟩:=Is.tup_inv hx
  obtain⟨p',ws,rfl,g1',g2'⟩:=Is.tup_inv hy
  refine .inl (.inl ⟨p,p',vs,ws,rfl,rfl,SqT.same hz g1,SqT.same hz g1',fun w=>h1 ((EI g2).mp w),by rw[g2.1,g2'.1];omega,fun w=>?_,fun w l hl=>?_⟩)
  ·have:ys=[]:=(EI g2').mp w
   subst this
   rw[qA0] at h3
   exact q _ _ ⟨H,z⟩ (Ext.refl hz) hx h3
  ·have j:=(g2.append g2').mono (AY (hz.free hl) (.tup (vs++ws)))
   exact q _ _ _ (Ext.lay hz hl (.tup (vs++ws))) (Is.tup (SqT.of Ac) j.1 j.2) h3
 ·rename_i xs ys
  obtain⟨h2,h3⟩:=h3
  obtain⟨p,vs,rfl,g1,g2⟩:=Is.lst_own hx
  obtain⟨p',ws,rfl,g1',g2'⟩:=Is.lst_own hy
  refine .inl (.inr ⟨p,p',vs,ws,rfl,rfl,hz _ _ g1,hz _ _ g1',by rw[g2.1,g2'.1];omega,fun l hl=>?_⟩)
  have j:=(g2.append g2').mono (AY (hz.free hl) (.lst (vs++ws)))
  exact q _ _ _ (Ext.lay hz hl (.lst (vs++ws))) (Is.lst Ac j.1 j.2) h3
 ·rename_i i j
  exact .inr ⟨i,j,hx.int_inv,hy.int_inv,q _ _ ⟨H,z⟩ (Ext.refl hz) (.int _) h3⟩
 ·exact h3.elim
def NT (xs:List D)(lo hi:Option Int):List D:=(xs.drop (HT.sIx xs.length 0 lo)).take (HT.sIx xs.length xs.length hi-HT.sIx xs.length 0 lo)
theorem Ld {K:PySem.W.Frag}{H:Hp}{vs:List V}{xs:List D} (h:Iss K H vs xs) (lo hi:Option Int):Iss K H (J4 vs lo hi) (NT xs lo hi):=by
 unfold J4 NT
 rw[h.1]
 refine⟨by simp[h.1],fun i v x h1 h2=>?_⟩
 rw[List.getElem?_take] at h1 h2
 split at h1
 ·rename_i hlt
  rw[if_pos hlt] at h2
  rw[qCk] at h1 h2
  exact h.2 _ v x h1 h2
 ·cases h1
abbrev TO3:=Tau→(Option Int→Prop)→Prop
structure PO3 (X:Cx)(e:Option Expr)(t:TO3):Prop where
 out:PO X e (fun σ H Q=>∃B z τ R,Rep X B τ σ ⟨H,z⟩∧t τ R∧∀o q,Ext ⟨H,z⟩ q→R o→Q o q.h)
def oNo:TO3:=fun _ R=>R none
def YZ (te:TE3):TO3:=fun τ R=>te τ fun s=>match s with
 |.d (.int i)=>R (some i)
 |_=>False
theorem B9:PO3 X none oNo:=⟨fun pins s σ H Q I ⟨B,z,τ,R,r,ht,q⟩=>Pw pins s σ H Q I (q none ⟨H,z⟩ (Ext.refl r.ext.sub) ht)⟩
theorem AQ (h:PE3 X e te):PO3 X (some e) (YZ te):=⟨fun pins s σ H Q I ⟨B,z,τ,R,r,ht,q⟩=>Ph h.out pins s σ H Q I ⟨B,z,τ,_,r,ht,fun s v q1 e1 i1 f1 h1=>by
 split at h1
 ·rename_i i
  exact⟨i,Is.int_inv i1,q _ _ e1 h1⟩
 ·exact h1.elim⟩⟩
def vSl (te:TE3)(lo hi:TO3):TE3:=fun τ R=>te τ fun x=>lo τ fun l=>hi τ fun u=>match x with
 |.d (.tup xs)=>¬(HT.sIx xs.length 0 l=0∧HT.sIx xs.length xs.length u=xs.length)∧R (.d (.tup (NT xs l u)))
 |.d (.lst xs)=>R (.l (NT xs l u))
 |.l xs=>R (.l (NT xs l u))
 |.r xs=>R (.l (NT xs l u))
 |_=>False
theorem ZQ {lo hi:Option Expr}{tl th:TO3}{p2:Pos} (he:PE3 X e te) (hl:PO3 X lo tl) (hh:PO3 X hi th):PE3 X (.Subscript e (.Slice lo hi none p2) pos) (vSl te tl th) :=
 ⟨Al (NM (IT (QM.or Oz) he.out hl.out hh.out)) fun σ H Q hh=>by
  obtain⟨B,z,τ,R,r,ht,q⟩:=hh
  refine⟨B,z,τ,_,r,ht,fun x v q1 e1 i1 f1 h1=>?_⟩
  refine⟨B,_,τ,_,r.mono e1,h1,fun l q2 e2 h2=>?_⟩
  refine⟨B,_,τ,_,(r.mono e1).mono e2,h2,fun u q3 e3 h3=>?_⟩
  have e23:=e2.trans e3
  have i1':=IsS.mono e23 i1
  have lists:∀(p:Addr)(vs:List V)(xs:List D),v=.ref p→SqL X.K q3.h p vs→Iss X.K q3.z vs xs→R (.l (NT xs l u))→∃a xs,v=.ref a∧SqL X.K q3.h a xs∧∀p,q3.h p=none→((∀a o,upd q3.h p (.lst (J4 xs l u)) a=some o→X.K.lookup a=none)→Q (.ref p) (upd q3.h p (.lst (J4 xs l u)))):=fun p vs xs hv hs hi hR =>
   ⟨p,vs,hv,hs,fun d hd hk=>q (.l (NT xs l u)) _ ⟨_,q3.z⟩ ((e1.trans e23).trans (Ext.own e23.sub hd _)) ⟨d,_,rfl,Ac,Ld hi l u⟩ (fun ys a _ h2=>by
    cases h2
    exact⟨(e1.trans e23).hh.free hd,hk d _ Ac,e23.sub.free hd⟩) hR⟩
  split at h3
  ·rename_i xs
   obtain⟨p,vs,rfl,g1,g2⟩:=Is.tup_inv i1'
   refine .inl ⟨p,vs,rfl,SqT.same e23.sub g1,by rw[g2.1];exact h3.1,fun d hd _=>?_⟩
   have j:=(Ld g2 l u).mono (AY (e23.sub.free hd) (.tup (J4 vs l u)))
   exact q (.d _) _ _ ((e1.trans e23).trans (Ext.lay e23.sub hd (.tup (J4 vs l u)))) (Is.tup (SqT.of Ac) j.1 j.2) Bp h3.2
  ·rename_i xs
   obtain⟨p,vs,rfl,g1,g2⟩:=Is.lst_inv i1'
   exact .inr (lists p vs xs rfl (e23.sub.seq g1) g2 h3)
  ·rename_i xs
   obtain⟨p,vs,rfl,g1,g2⟩:=i1'
   exact .inr (lists p vs xs rfl (SqL.of g1) g2 h3)
  ·rename_i xs
   obtain⟨p,vs,rfl,g1,g2⟩:=i1'
   exact .inr (lists p vs xs rfl g1 g2 h3)
  ·exact h3.elim⟩
def Pj (te:TE3):TE3:=fun τ R=>te τ fun s=>match items s with
 |some xs=>R (.l xs)
 |none=>False
def Si (te:TE3):TE3:=fun τ R=>te τ fun s=>match items s with
 |some xs=>R (.d (.tup xs))
 |none=>False
theorem Hf {K:PySem.W.Frag}{p:HZ}{v:V}{s:S}{xs:List D} (i:IsS K p v s) (hz:AU p.z p.h) (h:items s=some xs):∃a vs,v=.ref a∧Iss K p.z vs xs∧((SqL K p.h a vs)∨(SqT K p.z a vs∧s=.d (.tup xs))):=by
 cases s with
 |d z =>
  cases z with
  |tup zs=>cases h;obtain⟨a,vs,rfl,g1,g2⟩:=Is.tup_inv i;exact⟨a,vs,rfl,g2,.inr ⟨g1,rfl⟩⟩
  |lst zs=>cases h;obtain⟨a,vs,rfl,g1,g2⟩:=Is.lst_inv i;exact⟨a,vs,rfl,g2,.inl (hz.seq g1)⟩
  |_=>cases h
 |l zs=>cases h;obtain⟨a,vs,rfl,g1,g2⟩:=i;exact⟨a,vs,rfl,g2,.inl (SqL.of g1)⟩
 |r zs=>cases h;obtain⟨a,vs,rfl,g1,g2⟩:=i;exact⟨a,vs,rfl,g2,.inl g1⟩
theorem S9 {p:Pos} (he:PE3 X e te) (hg:Gl X "list") (hm:X.mg "list"=none) (hs:starEach [e] X.env=(false,eval e X.env)::starEach [] X.env:=by exact AI rfl):PE3 X (.Call (.Name "list" p) [e] [] pos) (Pj te) :=
 ⟨Al (NM (Cs GD hg hm qB1 (Az he.out A5 hs) (he:=hs))) fun σ H Q hh=>by obtain⟨B,z,τ,R,r,ht,q⟩:=hh;exact⟨B,z,τ,_,r,ht,fun s v q1 e1 i1 f1 h1=>by
  split at h1
  ·rename_i xs hx
   obtain⟨a,vs,rfl,g2,g1⟩:=Hf i1 e1.sub hx
   refine⟨a,vs,rfl,g1.elim .inl fun g=>.inr (SqT.same e1.sub g.1),fun d hd hk=>?_⟩
   exact q (.l xs) _ ⟨_,q1.z⟩ (e1.trans (Ext.own e1.sub hd _)) ⟨d,vs,rfl,Ac,g2⟩ (fun ys a _ h2=>by
    cases h2
    exact⟨e1.hh.free hd,hk d _ Ac,e1.sub.free hd⟩) h1
  ·exact h1.elim⟩⟩
theorem VZ {p:Pos} (he:PE3 X e te) (hg:Gl X "tuple") (hm:X.mg "tuple"=none) (hs:starEach [e] X.env=(false,eval e X.env)::starEach [] X.env:=by exact AI rfl):PE3 X (.Call (.Name "tuple" p) [e] [] pos) (Si te) :=
 ⟨Al (Cs FX hg hm PyProof.Rows.boot_tuple (Az he.out A5 hs) (he:=hs)) fun σ H Q hh=>by obtain⟨B,z,τ,R,r,ht,q⟩:=hh;exact⟨B,z,τ,_,r,ht,fun s v q1 e1 i1 f1 h1=>by
  split at h1
  ·rename_i xs hx
   obtain⟨a,vs,rfl,g2,g1⟩:=Hf i1 e1.sub hx
   refine⟨a,vs,rfl,?_⟩
   rcases g1 with g1|⟨g1,rfl⟩
   ·refine .inl ⟨g1,fun d hd=>?_⟩
    have j:=g2.mono (AY (e1.sub.free hd) (.tup vs))
    exact q (.d _) _ _ (e1.trans (Ext.lay e1.sub hd (.tup vs))) (Is.tup (SqT.of Ac) j.1 j.2) Bp h1
   ·exact .inr ⟨SqT.same e1.sub g1,q (.d _) _ q1 e1 i1 Bp h1⟩
  ·exact h1.elim⟩⟩
def WE (r3 r3':R3)(ta tb tc:TE3):TE3:=fun τ R=>ta τ fun x=>tb τ fun y=>dd x fun dx=>dd y fun dy=>r3 dx dy fun d=>match d with
 |.bl k=>if k=true then tc τ fun w=>dd w fun dw=>r3' dy dw fun d'=>R (.d d') else R (.d (.bl false))
 |_=>False
end
end L3
namespace L3
open PySem PySem.Spec PyProof.Rows L2
section
variable {X:Cx}{e a b c:Expr}{te ta tb tc ti:TE3}{pos:Pos}
theorem Rep.put {B:HZ}{H z:Hp}{τ:Tau}{σ:St}{i:Nat}{xs ys':List D}{l:Addr}{vs vs':List V} (r:Rep X B τ σ ⟨H,z⟩) (hi:τ[i]? = some (some (.l xs))) (hσ:σ[i]? = some (some (.ref l)))
 (hl:H l=some (.lst vs)) (hv:Iss X.K z vs' ys'):Rep X B (τ.set i (some (.l ys'))) σ ⟨upd H l (.lst vs'),z⟩:=by
 obtain⟨o1,o2,o3⟩:=r.own i xs l hi hσ
 refine⟨by simp[r.len],⟨fun b o h=>?_,r.ext.zz,fun b o h=>?_,r.ext.new⟩,fun j s hj=>?_,fun j ys a hj ha=>?_,fun j k ys s a hjk hj hk hs ha=>?_,r.top,r.pin⟩
 ·have hb:b≠l:=by
   rintro rfl
   rw[h] at o1
   cases o1
  show upd H l _ b=some o
  rw[Af hb]
  exact r.ext.hh b o h
 ·have hb:b≠l:=by
   rintro rfl
   have h':z b=some o:=h
   rw[show z b=none from o3] at h'
   cases h'
  show upd H l _ b=some o
  rw[Af hb]
  exact r.ext.sub b o h
 ·rcases Ar hj with⟨rfl,rfl⟩|⟨hn,hj⟩
  ·exact⟨.ref l,hσ,l,_,rfl,Ac,hv⟩
  ·obtain⟨v,h1,h2⟩:=r.val j s hj
   refine⟨v,h1,?_⟩
   cases s with
   |d x=>exact h2
   |l ys =>
    obtain⟨b,ws,rfl,h3,h4⟩:=h2
    have hb:b≠l:=by
     rintro rfl
     exact r.sep i j xs (.l ys) b (fun z=>hn z.symm) hi hj rfl hσ h1
    exact⟨b,ws,rfl,by show upd H l _ b=_;rw[Af hb];exact h3,h4⟩
   |r ys =>
    obtain⟨b,ws,rfl,h3,h4⟩:=h2
    have hb:b≠l:=by
     rintro rfl
     exact r.sep i j xs (.r ys) b (fun z=>hn z.symm) hi hj rfl hσ h1
    refine⟨b,ws,rfl,?_,h4⟩
    rcases h3 with (h3|⟨o,h3⟩)|h3
    ·exact .inl (.inl (by show upd H l _ b=_;rw[Af hb];exact h3))
    ·exact .inl (.inr ⟨o,by show upd H l _ b=_;rw[Af hb];exact h3⟩)
    ·exact .inr h3
 ·rcases Ar hj with⟨rfl,_⟩|⟨hn,hj⟩
  ·exact r.own j xs a hi ha
  ·exact r.own j ys a hj ha
 ·rcases Ar hj with⟨rfl,_⟩|⟨hn,hj'⟩
  ·rcases Ar hk with⟨e3,_⟩|⟨hkn,hk'⟩
   ·exact absurd e3.symm hjk
   ·exact r.sep j k xs s a hjk hi hk' hs ha
  ·rcases Ar hk with⟨rfl,rfl⟩|⟨hkn,hk'⟩
   ·exact r.sep j k ys (.l xs) a hjk hj' hi rfl ha
   ·exact r.sep j k ys s a hjk hj' hk' hs ha
def Wu (i:Nat):TS3:=fun D3 τ=>match τ[i]? with
 |some (some (.l xs))=>xs≠[]∧D3.nx (τ.set i (some (.l xs.dropLast)))
 |_=>False
theorem GG {K:PySem.W.Frag}{H:Hp}{vs:List V}{xs:List D} (h:Iss K H vs xs):Iss K H vs.dropLast xs.dropLast:=by
 refine⟨by simp[h.1],fun i v x h1 h2=>?_⟩
 rw[List.getElem?_dropLast] at h1 h2
 split at h1
 ·rename_i hlt
  rw[if_pos (by rw[←h.1];exact hlt)] at h2
  exact h.2 i v x h1 h2
 ·cases h1
theorem Zw {i:Nat}{o:Expr}{apos cpos:Pos} (h:PS X (.Expr (.Call (.Attribute o "pop" apos) [] [] cpos) pos) (Nt (Us X.K "list" Xz (Gw i)))):PS3 X (.Expr (.Call (.Attribute o "pop" apos) [] [] cpos) pos) (Wu i):=⟨AF h fun D2 σ H hh=>by
 obtain⟨B,z,τ,D3,r,ht,c⟩:=hh
 unfold Wu at ht
 split at ht
 ·rename_i xs hs
  obtain⟨v,h1,a,vs,rfl,h2,h3⟩:=r.val i _ hs
  have hne:0<vs.length:=by
   rw[h3.1]
   exact List.length_pos_iff.mpr ht.1
  refine⟨.ref a,h1,.inl ⟨rfl,vs,SqL.of h2⟩,a,vs,_,rfl,rfl,h2,qAc (),c.nx _ _ _ (r.put hs h1 h2 (GG h3)) ht.2⟩
 ·exact ht.elim⟩
def Wf (i:Nat)(te ti:TE3):TS3:=fun D3 τ=>match τ[i]? with
 |some (some (.l xs))=>te τ fun s=>dd s.arg fun d=>ti τ fun k=>match k with
  |.d (.int n)=>∃j,ixN xs.length n=some j∧D3.nx (τ.set i (some (.l (xs.set j d))))
  |_=>False
 |_=>False
theorem Iss.set {K:PySem.W.Frag}{H:Hp}{vs:List V}{xs:List D}{v:V}{x:D} (h:Iss K H vs xs) (j:Nat) (hx:Is K H v x):Iss K H (vs.set j v) (xs.set j x):=by
 refine⟨by simp[h.1],fun i w y h1 h2=>?_⟩
 rw[qCp] at h1 h2
 by_cases hij:j=i
 ·rw[if_pos hij] at h1 h2
  split at h1
  ·cases h1
   split at h2
   ·cases h2;exact hx
   ·cases h2
  ·cases h1
 ·rw[if_neg hij] at h1 h2
  exact h.2 i w y h1 h2
theorem YT {i:Nat}{x:Str}{ix:Expr}{px ps:Pos} (h:PS X (.Assign [.Subscript (.Name x px) ix ps] e pos) (US (FE X te) (WO (Gw i) (FE X ti) Rf))):PS3 X (.Assign [.Subscript (.Name x px) ix ps] e pos) (Wf i te ti):=⟨AF h fun D2 σ H hh=>by
 obtain⟨B,z,τ,D3,r,ht,c⟩:=hh
 unfold Wf at ht
 split at ht
 ·rename_i xs hs
  refine⟨B,z,τ,_,r,ht,fun s v q1 e1 i1 f1 h1=>?_⟩
  obtain⟨d,hd,h1⟩:=Cm h1
  obtain⟨z2,e2,i2⟩:=Dc e1 i1 f1
  rw[hd] at i2
  have r2:=r.mono e2
  obtain⟨w,g1,l,vs,rfl,g2,g3⟩:=r2.val i _ hs
  refine⟨.ref l,g1,B,z2,τ,_,r2,h1,fun k kv q3 e3 i3 f3 h3=>?_⟩
  split at h3
  ·rename_i n
   obtain⟨j,hj,hn⟩:=h3
   cases Is.int_inv i3
   exact⟨l,vs,n,j,rfl,rfl,e3.hh _ _ g2,by rw[g3.1];exact hj,c.nx _ _ _ ((r2.mono e3).put hs g1 (e3.hh _ _ g2) ((g3.mono e3.zz).set j (Is.mono e3.zz i2))) hn⟩
  ·exact h3.elim
 ·exact ht.elim⟩
def KY:S→Option (List D)
 |.d (.lst xs)=>some xs
 |.l xs=>some xs
 |.r xs=>some xs
 |_=>none
theorem Ck {K:PySem.W.Frag}{p:HZ}{v:V}{s:S}{xs:List D} (i:IsS K p v s) (hz:AU p.z p.h) (h:KY s=some xs):∃a vs,v=.ref a∧Iss K p.z vs xs∧SqL K p.h a vs:=by
 cases s with
 |d z =>
  cases z with
  |lst zs=>cases h;obtain⟨a,vs,rfl,g1,g2⟩:=Is.lst_inv i;exact⟨a,vs,rfl,g2,hz.seq g1⟩
  |_=>cases h
 |l zs=>cases h;obtain⟨a,vs,rfl,g1,g2⟩:=i;exact⟨a,vs,rfl,g2,SqL.of g1⟩
 |r zs=>cases h;obtain⟨a,vs,rfl,g1,g2⟩:=i;exact⟨a,vs,rfl,g2,g1⟩
def eqL (n:Nat)(xs ys:List D):Bool:=(xs.zip ys).all (fun p=>eqN n p.1 p.2)&&xs.length==ys.length
def Wh (X:Cx)(n:Nat):R2:=fun x y H Q=>∃a b vs ws xs ys,x=.ref a∧y=.ref b∧SqL X.K H a vs∧SqL X.K H b ws∧Iss X.K H vs xs∧Iss X.K H ws ys∧xs.all (Bl n)=true∧ys.all (Bl n)=true∧Q (.bl (eqL n xs ys)) H
theorem NX (n:Nat)(hu:X.A.units+1+n<cLine):OpR X (compareOp .Eq) (Wh X n):=by
 intro pins s σ H x y v u Q I rx ry h
 obtain⟨a,b,vs,ws,xs,ys,rfl,rfl,ha,hb,hx,hy,fx,fy,q⟩:=h
 cases rx
 cases ry
 obtain⟨its,r1,p1,_⟩:=I.list ha
 obtain⟨its2,r2,p2,_⟩:=I.list hb
 have l1:=r1.length
 have l2:=r2.length
 have k1:=hx.1
 have k2:=hy.1
 have fin:∀bb,eqL n xs ys=bb→EP X pins σ Q (.bool bb) s:=fun bb e=>⟨.bl bb,H,I,rfl,by rw[←e];exact q⟩
 by_cases hlen:xs.length=ys.length
 ·refine SeqAt.RcAt.lists (A:=X.A) (s:=s) (items:=its.toArray) (items2:=its2.toArray) (e:=fun j=>match xs[j]?,ys[j]? with|some x,some y=>eqN n x y|_,_=>true) p1.isList p2.isList (by simp;omega) () (fun j h1 h2=>?_) X.prog X.w X.xe _ (fin _ ?_)
  ·have h1':j<its.length:=by simpa using h1
   have h2':j<its2.length:=by simpa using h2
   have gx:xs[j]? = some (xs[j]' ()):=qAc ()
   have gy:ys[j]? = some (ys[j]' ()):=qAc ()
   have gv:vs[j]? = some (vs[j]' ()):=qAc ()
   have gw:ws[j]? = some (ws[j]' ()):=qAc ()
   obtain⟨u1,e1,q1⟩:=r1.get gv
   obtain⟨u2,e2,q2⟩:=r2.get gw
   rw[Bg h1 e1,Bg h2 e2]
   rw[gx,gy]
   exact GR I n X.A.in1 _ _ _ _ _ _ (by show X.A.units+1+n<cLine;omega) (qAp.mp fx _ (qAy gx)) (qAp.mp fy _ (qAy gy)) (hx.2 j _ _ gv gx) (hy.2 j _ _ gw gy) q1 q2
  ·unfold eqL
   have s1:its.toArray.size=xs.length:=by simp;omega
   rw[s1,hlen,beq_self_eq_true,qCO,qAW,qAp,qAp]
   constructor
   ·intro h j hj
    rw[qAV] at hj
    have gx:xs[j]? = some (xs[j]' ()):=qAc ()
    have gy:ys[j]? = some (ys[j]' ()):=qAc ()
    rw[gx,gy]
    exact h (_,_) (qAy (qAN.mpr ⟨gx,gy⟩))
   ·rintro h ⟨x,y⟩ hp
    obtain⟨j,hj⟩:=qBo hp
    obtain⟨gx,gy⟩:=qAN.mp hj
    have h1:=(qAj.mp gx).1
    have:=h j (by rw[qAV];omega)
    simp only[] at gx gy
    rw[gx,gy] at this
    exact this
 ·refine SeqAt.RcAt.lists_lengths (A:=X.A) (s:=s) (items:=its.toArray) (items2:=its2.toArray) p1.isList p2.isList (by simp;omega) () X.prog X.w X.xe _ (fin _ ?_)
  unfold eqL
  rw[show(xs.length==ys.length)=false from by simpa using hlen,qBV]
def VW (n:Nat)(ta tb:TE3):TE3:=fun τ R=>ta τ fun x=>tb τ fun y=>match KY x,KY y with
 |some xs,some ys=>xs.all (Bl n)=true∧ys.all (Bl n)=true∧R (.d (.bl (eqL n xs ys)))
 |_,_=>False
theorem Kn {n:Nat}{σ:St}{H:Hp}{Q:VK} (h:FE X (VW n ta tb) σ H Q):tOp (Wh X n) (FE X ta) (FE X tb) σ H Q:=by
 obtain⟨B,z,τ,R,r,ht,q⟩:=h
 refine⟨B,_,τ,_,r,ht,fun x v H1 e1 i1 f1 h1=>?_⟩
 refine⟨B,_,τ,_,r.mono e1,h1,fun y u H2 e2 i2 f2 h2=>?_⟩
 split at h2
 ·rename_i xs ys hx hy
  obtain⟨a,vs,rfl,g1,g2⟩:=Ck (IsS.mono e2 i1) e2.sub hx
  obtain⟨b,ws,rfl,g1',g2'⟩:=Ck i2 e2.sub hy
  exact⟨a,b,vs,ws,xs,ys,rfl,rfl,g2,g2',g1.mono e2.sub,g1'.mono e2.sub,h2.1,h2.2.1,q (.d _) _ H2 (e1.trans e2) (Is.bl _) Bp h2.2.2⟩
 ·exact h2.elim
theorem Ux (n:Nat)(hu:X.A.units+1+n<cLine)(ha:PE3 X a ta)(hb:PE3 X b tb):PE3 X (.Compare a [.Eq] [b] pos) (VW n ta tb) :=
 ⟨Al (Ip (NX n hu) ha.out hb.out (Em _)) fun _ _ _ h=>Kn h⟩
theorem ZD (n:Nat)(hu:X.A.units+1+n<cLine)(ha:PE3 X a ta)(hb:PE3 X b tb):PT3 X (.Compare a [.Eq] [b] pos) (Lw (VW n ta tb)) :=
 ⟨He (HH (NX n hu) ha.out hb.out (Em _)) fun σ H Q hh=>by obtain⟨B,z,τ,R,r,ht,q⟩:=hh;exact Kn ⟨B,z,τ,_,r,ht,fun s v q1 e i f h=>by
  obtain⟨c,rfl,h⟩:=Er h
  cases Is.bl_inv i
  exact⟨c,rfl,q c q1 e h⟩⟩⟩
def W4 (X:Cx)(n:Nat):R2:=fun x y H Q=>∃a b vs ws xs ys,x=.ref a∧y=.ref b∧SqL X.K H a vs∧SqL X.K H b ws∧Iss X.K H vs xs∧Iss X.K H ws ys∧xs.all (Bl n)=true∧ys.all (Bl n)=true∧Q (.bl (!eqL n xs ys)) H
theorem Oj (n:Nat)(hu:X.A.units+1+n<cLine):OpR X (compareOp .NotEq) (W4 X n):=by
 intro pins s σ H x y v u Q I rx ry h
 obtain⟨a,b,vs,ws,xs,ys,rfl,rfl,ha,hb,hx,hy,fx,fy,q⟩:=h
 cases rx
 cases ry
 obtain⟨its,r1,p1,_⟩:=I.list ha
 obtain⟨its2,r2,p2,_⟩:=I.list hb
 have l1:=r1.length
 have l2:=r2.length
 have k1:=hx.1
 have k2:=hy.1
 have fin:∀bb,(!eqL n xs ys)=bb→EP X pins σ Q (.bool bb) s:=fun bb e=>⟨.bl bb,H,I,rfl,by rw[←e];exact q⟩
 by_cases hlen:xs.length=ys.length
 ·refine SeqAt.RcNeAt.lists (A:=X.A) (s:=s) (items:=its.toArray) (items2:=its2.toArray) (e:=fun j=>match xs[j]?,ys[j]? with|some x,some y=>eqN n x y|_,_=>true) p1.isList p2.isList (by simp;omega) () (fun j h1 h2=>?_) X.prog X.w X.xe _ (fin _ ?_)
  ·have h1':j<its.length:=by simpa using h1
   have h2':j<its2.length:=by simpa using h2
   have gx:xs[j]? = some (xs[j]' ()):=qAc ()
   have gy:ys[j]? = some (ys[j]' ()):=qAc ()
   have gv:vs[j]? = some (vs[j]' ()):=qAc ()
   have gw:ws[j]? = some (ws[j]' ()):=qAc ()
   obtain⟨u1,e1,q1⟩:=r1.get gv
   obtain⟨u2,e2,q2⟩:=r2.get gw
   rw[Bg h1 e1,Bg h2 e2]
   rw[gx,gy]
   exact GR I n X.A.in1 _ _ _ _ _ _ (by show X.A.units+1+n<cLine;omega) (qAp.mp fx _ (qAy gx)) (qAp.mp fy _ (qAy gy)) (hx.2 j _ _ gv gx) (hy.2 j _ _ gw gy) q1 q2
  ·congr 1
   unfold eqL
   have s1:its.toArray.size=xs.length:=by simp;omega
   rw[s1,hlen,beq_self_eq_true,qCO,qAW,qAp,qAp]
   constructor
   ·intro h j hj
    rw[qAV] at hj
    have gx:xs[j]? = some (xs[j]' ()):=qAc ()
    have gy:ys[j]? = some (ys[j]' ()):=qAc ()
    rw[gx,gy]
    exact h (_,_) (qAy (qAN.mpr ⟨gx,gy⟩))
   ·rintro h ⟨x,y⟩ hp
    obtain⟨j,hj⟩:=qBo hp
    obtain⟨gx,gy⟩:=qAN.mp hj
    have h1:=(qAj.mp gx).1
    have:=h j (by rw[qAV];omega)
    simp only[] at gx gy
    rw[gx,gy] at this
    exact this
 ·refine SeqAt.RcNeAt.lists_lengths (A:=X.A) (s:=s) (items:=its.toArray) (items2:=its2.toArray) p1.isList p2.isList (by simp;omega) () X.prog X.w X.xe _ (fin _ ?_)
  unfold eqL
  rw[show(xs.length==ys.length)=false from by simpa using hlen,qBV]
  rfl
def VP (n:Nat)(ta tb:TE3):TE3:=fun τ R=>ta τ fun x=>tb τ fun y=>match KY x,KY y with
 |some xs,some ys=>xs.all (Bl n)=true∧ys.all (Bl n)=true∧R (.d (.bl (!eqL n xs ys)))
 |_,_=>False
theorem KH {n:Nat}{σ:St}{H:Hp}{Q:VK} (h:FE X (VP n ta tb) σ H Q):tOp (W4 X n) (FE X ta) (FE X tb) σ H Q:=by
 obtain⟨B,z,τ,R,r,ht,q⟩:=h
 refine⟨B,_,τ,_,r,ht,fun x v H1 e1 i1 f1 h1=>?_⟩
 refine⟨B,_,τ,_,r.mono e1,h1,fun y u H2 e2 i2 f2 h2=>?_⟩
 split at h2
 ·rename_i xs ys hx hy
  obtain⟨a,vs,rfl,g1,g2⟩:=Ck (IsS.mono e2 i1) e2.sub hx
  obtain⟨b,ws,rfl,g1',g2'⟩:=Ck i2 e2.sub hy
  exact⟨a,b,vs,ws,xs,ys,rfl,rfl,g2,g2',g1.mono e2.sub,g1'.mono e2.sub,h2.1,h2.2.1,q (.d _) _ H2 (e1.trans e2) (Is.bl _) Bp h2.2.2⟩
 ·exact h2.elim
theorem YO (n:Nat)(hu:X.A.units+1+n<cLine)(ha:PE3 X a ta)(hb:PE3 X b tb):PE3 X (.Compare a [.NotEq] [b] pos) (VP n ta tb) :=
 ⟨Al (Ip (Oj n hu) ha.out hb.out (Em _)) fun _ _ _ h=>KH h⟩
theorem VH (n:Nat)(hu:X.A.units+1+n<cLine)(ha:PE3 X a ta)(hb:PE3 X b tb):PT3 X (.Compare a [.NotEq] [b] pos) (Lw (VP n ta tb)) :=
 ⟨He (HH (Oj n hu) ha.out hb.out (Em _)) fun σ H Q hh=>by obtain⟨B,z,τ,R,r,ht,q⟩:=hh;exact KH ⟨B,z,τ,_,r,ht,fun s v q1 e i f h=>by
  obtain⟨c,rfl,h⟩:=Er h
  cases Is.bl_inv i
  exact⟨c,rfl,q c q1 e h⟩⟩⟩
end
end L3
namespace L3
open PySem PySem.Spec PyProof.Rows L2
section
variable {X:Cx}{e:Expr}{es:List Expr}{tr:TA3}{th:TS3}
def Uk (sp:Sp3)(ok:Str→Prop)(tr:TA3)(th:TS3):TS3:=fun D3 τ=>tr τ fun ss=>sp ss (fun _=>D3.nx τ) (fun y=>ok y∧th D3 τ)
theorem Xv {k:Nat}{f cx:Str}{ps:List Str}{sp:Sp3}{Cx:Addr}{ok:Str→Prop}{pf pc pa np hp pt:Pos}{b0:Stmt}{suite:List Stmt} (hst:X.stack=X.env::X.outer) (hf:X.env.frame=some X.env.locals) (hno:∀e s,¬X.xe e s)
 (c:Cal X.prog X.w X.K X.mg X.base (CXU X.prog X.w) k f ps sp) (hr:Be k X.A) (hg:Gl X f) (ha:PA3 X (e::es) tr)
 (hgx:Gl X cx) (hm:X.mg cx=some (.ref Cx)) (hn:HnC X.K Cx) (hok:∀y C,ok y→X.mg y=some (.ref C)→PySem.W.mroIn X.K C (.ref Cx)=some true) (hh:∀ea,C4 (hnd X ea) (b0::suite) th)
 (hdb:(f==("__debug__":Str))=false:=by decide) (hd:(cx==("__debug__":Str))=false:=by decide) (he:starEach (e::es) X.env=(false,eval e X.env)::starEach es X.env:=by exact AI rfl) (hpl:(backTo pc (starEach es X.env)).any (·.1)=false:=by exact A1 rfl)
 (hs:swapsWith (.Call (.Name f pf) (e::es) [] pc) none pa.line X.env=pure false:=by rfl) :
 PS3 X (.Try [.Expr (.Call (.Name f pf) (e::es) [] pc) pa] [.ExceptHandler (some (.Name cx np)) none (b0::suite) hp] [] [] pt) (Uk sp ok tr th):=by
 refine⟨?_⟩
 obtain⟨fa,fd,F,hmf,hk,hb⟩:=c.ex
 intro pins s σ H D2 I h
 obtain⟨B,z,τ,D3,r,ht,ct⟩:=h
 refine wpAny_Try_except (wpAny_execs_cons (wpAny_Expr_any (thn (D5 (Ex:=fun cls _ H'=>∃y,X.mg y=some cls∧ok y∧th D3 τ∧AU H H') (Q:=fun v H'=>D2.nx σ H') F hr hg hmf hk hb ha.out (fun e s z=>(hno e s z).elim) I ?hx ?h hdb he hpl) fun v s1 ⟨y,H1,I1,r1,q1⟩=>?nx) I.quiet hs))
 case hx =>
  intro H1 s1 e' s' I1 hcx
  obtain⟨ea,C,a0,B',H',rfl,ho,hbr,fl,y,hy,hoky,hth,hsame⟩:=hcx
  refine Oc I1 hst hf fl ho hbr hgx hm hn (hok y C hoky hy) hd fun s2 I2=>?_
  exact wpAny_mono ((hh ea).out pins s2 σ H' D2 (FI I2 ea) ⟨B,_,τ,D3,LM (r.mono (Ext.grow r.ext.sub hsame)) ea,hth,IW ct ea⟩) (fun f s3 h3=>IL I.ok.hd I.ok.frames h3) fun e3 s3 z=>hno e3 s3 z
 case h =>
  refine⟨B,_,τ,_,r,ht,fun ss vs H1 e1 i1 h1=>⟨H1.z,ss,_,_,e1.sub,i1,h1,fun s v H2 e2 i2 f2 h2=>?_,fun y C H2 e2 hy hu=>⟨y,hy,hu.1,hu.2,e1.hh.trans e2⟩⟩⟩
  exact ct.nx _ _ _ (r.mono (e1.trans e2)) h2
 case nx =>
  exact wpAny_execs_nil (wpAny_execs_nil ⟨_,H1,I1,q1⟩)
end
structure GC (K:PySem.W.Frag)(mg:Str→Option Value)(x:Str)(d:D):Prop where
 ex:∃u v,mg x=some u∧AN v u∧∀H,Is K H v d
theorem Je {X:Cx}{x:Str}{d:D}{pos:Pos} (hg:Gl X x) (c:GC X.K X.mg x d) (hd:(x==("__debug__":Str))=false:=by decide):PE3 X (.Name x pos) (vC d):=by
 obtain⟨u,v,hm,hr,hi⟩:=c.ex
 exact⟨Al (HQ hg hm hr hd) fun σ H Q hh=>by obtain⟨B,z,τ,R,r,ht,q⟩:=hh;exact q (.d d) v ⟨H,z⟩ (Ext.refl r.ext.sub) (hi _) Bp ht⟩
def KD (K:PySem.W.Frag)(u:Value)(d:D):Prop:=∃v,AN v u∧∀H,Is K H v d
theorem KD.of {K:PySem.W.Frag}{mg:Str→Option Value}{x:Str}{u:Value}{d:D} (hm:mg x=some u) (h:KD K u d):GC K mg x d:=by
 obtain⟨v,r,i⟩:=h
 exact⟨u,v,hm,r,i⟩
section
variable {K:PySem.W.Frag}
theorem KD.int {i:Int}{t}:KD K (Value.int i t) (.int i):=⟨.int i,⟨t,rfl⟩,fun _=>.int i⟩
theorem KD.str {x:Str}{t}:KD K (Value.str x t) (.str x):=⟨.str x,⟨t,rfl⟩,fun _=>.str x⟩
theorem KD.non:KD K .none .non:=⟨.non,rfl,fun _=>.non⟩
theorem KD.bl {b:Bool}:KD K (.bool b) (.bl b):=⟨.bl b,rfl,fun _=>.bl b⟩
inductive KDs (K:PySem.W.Frag):List Value→List D→Prop where
 |nil:KDs K [] []
 |cons {u:Value}{us:List Value}{d:D}{ds:List D}:KD K u d→KDs K us ds→KDs K (u::us) (d::ds)
theorem KDs.out:∀{us:List Value}{ds:List D},KDs K us ds→∃vs,AA vs us∧∀H,Iss K H vs ds
 |_,_,.nil=>⟨[],.nil,fun _=>⟨rfl,fun i v x h=>by simp at h⟩⟩
 |_,_,.cons ⟨v,r,i⟩ t=>by
  obtain⟨vs,rs,is⟩:=t.out
  refine⟨v::vs,.cons r rs,fun H=>⟨by simp[(is H).1],fun j w x h1 h2=>?_⟩⟩
  cases j with
  |zero=>simp at h1 h2;subst h1;subst h2;exact i H
  |succ j=>exact(is H).2 j w x (by simpa using h1) (by simpa using h2)
theorem KD.tup {a:Addr}{od:Option Addr}{its:Array Value}{n:Nat}{sl:Array (Option Value)}{ds:List D} (h:K.lookup a=some ⟨.type "tuple",od,.seq its n,sl⟩) (hz:its.size≤sizeLine) (hs:KDs K its.toList ds):KD K (.ref a) (.tup ds):=by
 obtain⟨vs,rs,is⟩:=hs.out
 exact⟨.ref a,rfl,fun H=>.tup (.inr ⟨_,its,n,h,rfl,rfl,hz,rs⟩) (is H).1 (is H).2⟩
end
end L3
namespace L3
open PySem PySem.Spec PyProof.Rows L2
abbrev TB3:=(Str→Prop)→(Tau→Prop)→Tau→Prop
structure PB3 (X:Cx)(body:List Stmt)(t:TB3):Prop where
 out:∀(pins:List (Addr×Obj))(s:Shared)(σ:St)(H:Hp)(B:HZ)(z:Hp)(τ:Tau)(ex:Str→Prop)(nx:Tau→Prop)(Q:Flow→Shared→Prop)(EE:Value→Shared→Prop),Inv X pins σ H s→Rep X B τ σ ⟨H,z⟩→t ex nx τ →
  (∀(s1:Shared)(p:HZ),Inv X pins σ p.h s1→Ext ⟨H,z⟩ p→nx τ→Q .next s1) →
  (∀(H1:Hp)(s1:Shared)(e:Value)(s':Shared),Inv X pins σ H1 s1→CXU X.prog X.w X.stack H1 s1 (fun cls _ H'=>∃y,X.mg y=some cls∧ex y∧AU H H') e s'→EE e s') →
  wpAny (model X.prog X.w) X.A (execs body X.env) Q EE s
section
variable {X:Cx}{e:Expr}{es:List Expr}{tr:TA3}
def UC (sp:Sp3)(tr:TA3):TB3:=fun ex nx τ=>tr τ fun ss=>sp ss (fun _=>nx τ) ex
theorem Wm {k:Nat}{f:Str}{ps:List Str}{sp:Sp3}{pf pc pa:Pos} (hno:∀e s,¬X.xe e s)
 (c:Cal X.prog X.w X.K X.mg X.base (CXU X.prog X.w) k f ps sp) (hr:Be k X.A) (hg:Gl X f) (ha:PA3 X (e::es) tr)
 (hdb:(f==("__debug__":Str))=false:=by decide) (he:starEach (e::es) X.env=(false,eval e X.env)::starEach es X.env:=by exact AI rfl) (hpl:(backTo pc (starEach es X.env)).any (·.1)=false:=by exact A1 rfl)
 (hs:swapsWith (.Call (.Name f pf) (e::es) [] pc) none pa.line X.env=pure false:=by rfl) :
 PB3 X [.Expr (.Call (.Name f pf) (e::es) [] pc) pa] (UC sp tr):=by
 refine⟨?_⟩
 obtain⟨fa,fd,F,hmf,hk,hb⟩:=c.ex
 intro pins s σ H B z τ ex nx Q EE I r ht hq hx
 refine wpAny_execs_cons (wpAny_Expr_any (thn (D5 (Ex:=fun cls _ H'=>∃y,X.mg y=some cls∧ex y∧AU H H') (Q:=fun v H'=>∃z',Ext ⟨H,z⟩ ⟨H',z'⟩∧nx τ) F hr hg hmf hk hb ha.out (fun e s z=>(hno e s z).elim) I hx ?h hdb he hpl) fun v s1 ⟨y,H1,I1,r1,q1⟩=>?nx) I.quiet hs)
 case h =>
  refine⟨B,_,τ,_,r,ht,fun ss vs H1 e1 i1 h1=>⟨H1.z,ss,_,_,e1.sub,i1,h1,fun s v H2 e2 i2 f2 h2=>⟨H2.z,e1.trans e2,h2⟩,fun y C H2 e2 hy hu=>⟨y,hy,hu,e1.hh.trans e2⟩⟩⟩
 case nx =>
  obtain⟨z',e',n'⟩:=q1
  exact wpAny_execs_nil (hq s1 ⟨H1,z'⟩ I1 e' n')
def bIf (tc:TT3)(t u:TB3):TB3:=fun ex nx τ=>tc τ fun b=>if b=true then t ex nx τ else u ex nx τ
theorem ZI {c:Expr}{as bs:List Stmt}{tc:TT3}{t u:TB3}{pos:Pos} (hno:∀e s,¬X.xe e s) (hc:PT3 X c tc) (ha:PB3 X as t) (hb:PB3 X bs u):PB3 X [.If c as bs pos] (bIf tc t u):=by
 refine⟨?_⟩
 intro pins s σ H B z τ ex nx Q EE I r ht hq hx
 refine wpAny_execs_cons (wpAny_If (wpAny_mono (hc.out pins s σ H (fun b H1=>∃z1,Ext ⟨H,z⟩ ⟨H1,z1⟩∧(if b=true then t ex nx τ else u ex nx τ)) I ⟨B,z,τ,_,r,ht,fun b q e1 h1=>⟨q.z,e1,h1⟩⟩) (fun b s1 ⟨H1,I1,z1,e1,h1⟩=>?_) fun e s z=>(hno e s z).elim))
 have hq':∀(s2:Shared)(p:HZ),Inv X pins σ p.h s2→Ext ⟨H1,z1⟩ p→nx τ→wpAny (model X.prog X.w) X.A (execs [] X.env) Q EE s2:=fun s2 p I2 e2 n2=>wpAny_execs_nil (hq s2 p I2 (e1.trans e2) n2)
 have hx':∀(H2:Hp)(s2:Shared)(e:Value)(s':Shared),Inv X pins σ H2 s2→CXU X.prog X.w X.stack H2 s2 (fun cls _ H'=>∃y,X.mg y=some cls∧ex y∧AU H1 H') e s'→EE e s':=fun H2 s2 e s' I2 h2=>by
  obtain⟨ea,C,a0,B',H',rfl,ho,hbr,fl,y,hy,hey,hsame⟩:=h2
  exact hx H2 s2 _ s' I2 ⟨ea,C,a0,B',H',rfl,ho,hbr,fl,y,hy,hey,e1.hh.trans hsame⟩
 cases b with
 |true=>rw[if_pos rfl] at h1 ⊢;exact ha.out pins s1 σ H1 B z1 τ ex nx _ EE I1 (r.mono e1) h1 hq' hx'
 |false=>rw[if_neg qAe] at h1 ⊢;exact hb.out pins s1 σ H1 B z1 τ ex nx _ EE I1 (r.mono e1) h1 hq' hx'
def QG (i:Nat)(tb:TB3)(ok:Str→Prop)(th:Addr→Str→TS3):TS3:=fun D3 τ=>tb (fun y=>ok y∧∀ea,th ea y { nx:=fun _=>False,rt:=D3.rt } (τ.set i (some (.d (.ref ea))))) D3.nx τ
theorem Rc {i:Nat}{n cx:Str}{Cx:Addr}{ok:Str→Prop}{th:Addr→Str→TS3}{tb:TB3}{np hp pt:Pos}{body:List Stmt}{b0:Stmt}{suite:List Stmt} (hst:X.stack=X.env::X.outer) (hf:X.env.frame=some X.env.locals) (hno:∀e s,¬X.xe e s)
 (hbd:PB3 X body tb) (hN:X.N.Nodup) (hi:X.N[i]? = some n) (hx:Loc X.env.scope n) (hkl:X.env.kindOf n=some .local)
 (hgx:Gl X cx) (hm:X.mg cx=some (.ref Cx)) (hn:HnC X.K Cx) (hok:∀y C,ok y→X.mg y=some (.ref C)→PySem.W.mroIn X.K C (.ref Cx)=some true) (hh:∀ea oe y C,ok y→X.mg y=some (.ref C)→ExO oe C→C4 (EW X ea oe) (b0::suite) (th ea y))
 (hd:(cx==("__debug__":Str))=false:=by decide) (hfn:X.fn n=true∨X.env.scope.names.lookup n=some .local:=by first|exact .inl rfl|exact .inr rfl|assumption) (hpn:Bi X i:=by first|exact AZ rfl|exact A0 rfl ∅|assumption) :
 PS3 X (.Try body [.ExceptHandler (some (.Name cx np)) (some n) (b0::suite) hp] [] [] pt) (QG i tb ok th):=by
 refine⟨?_⟩
 intro pins s σ H D2 I h
 obtain⟨B,z,τ,D3,r,ht,ct⟩:=h
 refine wpAny_Try_except (hbd.out pins s σ H B z τ _ _ _ _ I r ht (fun s1 p I1 e1 n1=>?nx) ?hx)
 case hx =>
  intro H1 s1 e' s' I1 hcx
  obtain⟨ea,C,a0,B',H',rfl,ho,hbr,fl,y,hy,⟨hoky,hth⟩,hsame⟩:=hcx
  refine IB I1 hst hf fl ho hbr hgx hm hn (hok y C hoky hy) hd hN hi hx hfn fun s2 oe hO I2=>?_
  refine wpAny_mono ((hh ea oe y C hoky hy hO).out pins s2 _ H' { nx:=fun _ _=>False,rt:=D2.rt,bk:=fun _ _=>False,ct:=fun _ _=>False } I2 ⟨B,_,_,_,Iw ((r.mono (Ext.grow r.ext.sub hsame)).setd (.ref ea) hpn),hth ea,⟨fun _ _ _ _ z=>z.elim,fun _ _ _ _ z=>z.elim,fun _ _ _ _ z=>z.elim,ct.rt⟩⟩) (fun f s3 h3=>?_) fun e3 s3 z=>hno e3 s3 z
  cases f with
  |next=>obtain⟨_,_,_,z⟩:=h3;exact z.elim
  |brk=>obtain⟨_,_,_,z⟩:=h3;exact z.elim
  |cont=>obtain⟨_,_,_,z⟩:=h3;exact z.elim
  |ret u =>
   obtain⟨v,σ',H3,I3,rv,q3⟩:=h3
   exact Hx (E5 I.ok.hd I.ok.frames I3) hkl fun s5 I5=>⟨v,_,H3,I5,rv,q3⟩
 case nx =>
  exact wpAny_execs_nil ⟨σ,p.h,I1,ct.nx _ _ _ (r.mono e1) n1⟩
theorem UY {i:Nat}{n cx y0:Str}{Cx C0:Addr}{th:Addr→TS3}{tb:TB3}{np hp pt:Pos}{body:List Stmt}{b0:Stmt}{suite:List Stmt} (hst:X.stack=X.env::X.outer) (hf:X.env.frame=some X.env.locals) (hno:∀e s,¬X.xe e s)
 (hbd:PB3 X body tb) (hN:X.N.Nodup) (hi:X.N[i]? = some n) (hx:Loc X.env.scope n) (hkl:X.env.kindOf n=some .local)
 (hgx:Gl X cx) (hm:X.mg cx=some (.ref Cx)) (hn:HnC X.K Cx) (hok:∀y C,y=y0→X.mg y=some (.ref C)→PySem.W.mroIn X.K C (.ref Cx)=some true) (hm0:X.mg y0=some (.ref C0)) (hh:∀ea oe,ExO oe C0→C4 (EW X ea oe) (b0::suite) (th ea))
 (hd:(cx==("__debug__":Str))=false:=by decide) (hfn:X.fn n=true∨X.env.scope.names.lookup n=some .local:=by first|exact .inl rfl|exact .inr rfl|assumption) (hpn:Bi X i:=by first|exact AZ rfl|exact A0 rfl ∅|assumption) :
 PS3 X (.Try body [.ExceptHandler (some (.Name cx np)) (some n) (b0::suite) hp] [] [] pt) (QG i tb (fun y=>y=y0) (fun ea _=>th ea)) :=
 Rc (th:=fun ea _=>th ea) hst hf hno hbd hN hi hx hkl hgx hm hn hok (fun ea oe y C e h1 hO=>by subst e;rw[hm0] at h1;cases h1;exact hh ea oe hO) hd hfn
end
end L3
namespace CH
open PySem L2 L3
theorem MS {i j:Int}{m n:Nat} (hi:i.natAbs<2^m) (hj:j.natAbs<2^n) (h:m+n≤134217728):IntMulOk i j :=
 PyProof.Rows.mulOk_of_bits (qCC hi) (qCC hj) h
def dg (n:Int):Nat:=if n==0 then 0 else n.natAbs.log2/30+1
theorem Ke {i:Int}{m:Nat} (h:i.natAbs<2^m):dg i≤m/30+1:=by
 unfold dg
 by_cases h0:(i==0)=true
 ·rw[if_pos h0];omega
 ·rw[if_neg h0]
  have hn:i.natAbs≠0:=by
   intro z
   apply h0
   have:i=0:=()
   rw[this];rfl
  have:i.natAbs.log2<m:=(Nat.log2_lt hn).mpr h
  omega
theorem ZH {i j:Int} (h:i.natAbs<2^13000):Builtin.divisionGoesByPylong i j=false:=by
 have k:=Ke h
 clear h
 show(decide (dg j>300)&&decide (dg i>dg j+150))=false
 rw[Bool.and_eq_false_iff]
 by_cases hq:dg j>300
 ·exact .inr (decide_eq_false ())
 ·exact .inl (decide_eq_false hq)
theorem UQ {i j:Int} (h:j.natAbs<1073741824):Builtin.divisionGoesByPylong i j=false:=PyProof.noPylong_small h
theorem XJ (i:Int):(if i<0 then -i else i)=(i.natAbs:Int):=()
theorem nz2:(2:Int)≠0:=∅
theorem nz3:(3:Int)≠0:=∅
theorem nz5:(5:Int)≠0:=∅
theorem nz6:(6:Int)≠0:=∅
theorem nz7:(7:Int)≠0:=∅
theorem XG (i:Int):0≤(if i<0 then -i else i):=by split<;>omega
def cell (ns:List Int)(k:Int):Int:=ns.getD k.toNat 0
def sgn (c m:Int):Int:=if c.fmod 2=1 then -((c.fdiv 2).fmod m) else (c.fdiv 2).fmod m
theorem Ws {c m:Int} (h:0<m):(sgn c m).natAbs<m.natAbs:=by
 have h1:=qAG (c.fdiv 2) h
 have h2:=qAU (c.fdiv 2) h
 unfold sgn
 split<;>omega
theorem M4 {ns:List Int}{k:Int} (h0:0≤k) (h1:k<(ns.length:Int)):atI (ns.map D.int) k=some (.int (cell ns k)):=by
 have hk:k.toNat<ns.length:=()
 have ek:k=((k.toNat:Nat):Int):=()
 have q:atI (ns.map D.int) ((k.toNat:Nat):Int)=some (.int ns[k.toNat]):=Gh (by rw[qAl,qAc hk]<;>rfl)
 rw[←ek] at q
 rw[q]
 unfold cell
 rw[qBb,qAc hk]
 rfl
theorem TV {ns:List Int}{k:Int} (h0:0≤k) (h1:¬k<(ns.length:Int)):cell ns k=0:=by
 unfold cell
 rw[qBb,qAs.mpr ()]
 rfl
abbrev I (i:Int):Option S:=some (.d (.int i))
abbrev B' (b:Bool):Option S:=some (.d (.bl b))
theorem A8 {c A B:Prop} [Decidable c] (h1:c→A) (h2:¬c→B):if decide c=true then A else B:=by
 by_cases h:c
 ·rw[decide_eq_true h,if_pos rfl];exact h1 h
 ·rw[decide_eq_false h,if_neg qAe];exact h2 h
theorem Xq {c A B:Prop} [Decidable c] (h1:¬c→A) (h2:c→B):if (!decide c)=true then A else B:=by
 by_cases h:c
 ·rw[decide_eq_true h];exact h2 h
 ·rw[decide_eq_false h];exact h1 h
theorem iF {b:Bool}{A B:Prop} (h:B) (hb:b=false:=by rfl):if b=true then A else B:=by subst hb;rw[if_neg qAe];exact h
theorem iT {b:Bool}{A B:Prop} (h:A) (hb:b=true:=by rfl):if b=true then A else B:=by subst hb;rw[if_pos rfl];exact h
end CH
namespace L3
theorem boot_max:PySem.bootBuiltins "max"=some (.builtin "max"):=by decide +kernel
theorem Tj:PySem.bootBuiltins "min"=some (.builtin "min"):=by decide +kernel
end L3
namespace L3
open PySem PySem.Spec PyProof.Rows L2
section
variable {prog:Program}{w:World}{A:Around}{R:Result→Shared→Prop}{s:Shared}
theorem P1 {fa:Addr}{ag:PySem.Args}{ob:Obj}{f:FuncData}{bd:Expr}{nm:Str} (hroom:A.depth<recursionLimit) (hob:s.heap.get? fa=some ob) (hdt:ob.data=.func f)
 (hc1:f.scope.isCoroutine=false) (hc2:f.scope.isGenerator=false) (hbd:f.body=.expr bd) (hcd:s.heap.CodeRec f.code nm)
 (k:wpAny (model prog w) A.in1 (bindArgs f ag) (fun bs s1=>wpAny (model prog w) A.in1 (newFunctionEnv f.scope f.globals f.closure bs (nm ++ ".<locals>.") (some fa) f.code none f.builtins)
  (fun en s2=>s2.heap.NoLimit∧codeAny (model prog w) A (.expr bd en) R s2) (fun x s3=>R (.error x) s3) s1) (fun x s3=>R (.error x) s3) s) :
 codeAny (model prog w) A (.call (.ref fa) ag) R s:=by
 refine codeAny_of_tree ?_
 show wpAny _ A.in1 (callAny (.ref fa) ag) _ _ s
 simp only[callAny]
 refine wpAny_bind (wpAny_load hob ?_)
 obtain⟨cc,oc,fs,tq,hc,hoc,hdc,hq⟩:=hcd
 simp only[hdt,callFunction,hc1,hc2,hbd,hc]
 rw[hc] at k
 refine wpAny_bind (m:=field (.ref cc) 1) (wpAny_field hoc hdc hq (wpAny_bind (wpAny_pure ?_)))
 exact wpAny_bind (wpAny_mono k (fun bs s1 k1=>wpAny_bind (wpAny_mono k1 (fun en s2 k2=>wpAny_bind (wpAny_enterFrame k2.1 hroom (wpAny_pure (And.intro rfl k2.2)))) fun _ _ z=>z)) fun _ _ z=>z)
end
structure MX (P:Program)(w:World)(K:PySem.W.Frag)(mg:Str→Option Value)(base:Heap)(k:Nat)(s:Shared)(H:Hp)(fs:List Addr)(a:Addr)(dom:D→Prop)(p:D→Bool):Prop where
 obj:∃o u fd,H a=some (.frz o u)∧o.data=.func fd
 run:∀(A:Around)(outer:List Env)(s':Shared)(H':Hp)(v:V)(u:Value)(x:D),Be k A→JA P w K mg base A outer s' H' →
  (∀b o,s.heap.get? b=some o→H b=none→b∉fs→s'.heap.get? b=some o∧H' b=none)→AU H H'→AN v u→Is K H' v x→dom x →
  codeAny (model P w) A (.call (.ref a) ⟨[u],[]⟩) (CR CX0 outer P w H' s' (fun r H2=>r=.bl (p x)∧AU H' H2) fun _ _ _=>False) s'
def Ql (X:Cx)(N:List Str)(scope:Scope)(cl:List (Str×Addr))(nm:Str)(a:Addr)(cdv:Value)(A:Around)(outer:List Env)(s:Shared)(H:Hp):Cx :=
 { X with A:=A.deeper (PySem.W.envX nm scope s.heap.objs.size a cdv cl),N:=N,s₀:=s,H₀:=H,env:=PySem.W.envX nm scope s.heap.objs.size a cdv cl,outer:=outer,stack:=PySem.W.envX nm scope s.heap.objs.size a cdv cl::outer,ex:=[],fn:=fun _=>false,calm:=true,pn:=[],xe:=fun _ _=>False,lent:=none }
def HG (τ:Tau)(idx:List Nat):Tau:=idx.map fun j=>match τ[j]? with
 |some (some (S.d y))=>some (S.d y)
 |_=>none
section
variable {X:Cx}{pins:List (Addr×Obj)}{σ:St}{H1 H:Hp}{s1 s:Shared}{x:Str}{scope:Scope}{N:List Str}{idx:List Nat}{cl:List (Str×Addr)}
theorem JO (I1:Inv X pins σ H1 s1)(hfn:∀y,X.fn y=true){y:Str}{c:Addr} (e:X.env.cells.lookup y=some c):c∉frs X.stack:=fun hb=>by
 rcases qAq.mp (I1.stkSub c hb) with z|z
 ·exact I1.cne y c e z
 ·obtain⟨_,o,ho,_⟩:=I1.ok.funs.mem z
  exact absurd (qAr (qAh ho) (I1.ok.cab y c (hfn y) e)) (qA3 _)
theorem Kk (O:BG X x scope N idx)(hfn:∀y,X.fn y=true)(I1:Inv X pins σ H1 s1)(hcl:∀y c,cl.lookup y=some c→X.env.cells.lookup y=some c)(hcl2:∀y,(y,NameKind.free)∈scope.names→∃c,cl.lookup y=some c)
 {A:Around}{outer:List Env}{s':Shared}{H':Hp} (e0:JA X.prog X.w X.K X.mg X.base A outer s' H') (hd:A.handled=none)
 (st:∀b o,s1.heap.get? b=some o→H1 b=none→b∉frs X.stack→s'.heap.get? b=some o∧H' b=none){v:V}{u:Value} (r:AN v u)
 {h1:Heap} (hns:h1.Ns s'.heap.objs.size (fun y=>[(x,u)].reverse.lookup y)) (old:∀b o,s'.heap.get? b=some o→h1.get? b=some o){tk:Nat}{nm:Str}{a:Addr}{cdv:Value} :
 Inv (Ql X N scope cl nm a cdv A outer s' H') [] (some v::Dd σ idx) H' { s' with heap:=h1,toks:=tk }:=by
 have kept:∀y c,X.env.cells.lookup y=some c→∀z,s1.heap.IsCell c z→h1.IsCell c z∧H' c=none:=fun y c e z hh=>by
  obtain⟨o,ho,hd⟩:=hh
  obtain⟨g1,g2⟩:=st c o ho (I1.freeC y c e) (JO I1 hfn e)
  exact⟨⟨o,old _ _ g1,hd⟩,g2⟩
 refine⟨⟨e0.mod,O.kind,rfl,rfl,qAg _,fun y z c h1 h2=>I1.ok.inj y z c (hcl y c h1) (hcl z c h2),fun y hy=>?_,(fun _ _ z=>by cases z),fun _=>hd,Around.frames_deeper e0.frames,.inr ⟨rfl,rfl⟩,(fun b z=>by cases z),e0.bs,e0.bsz,(fun _ _ _ z=>by cases z),(fun b z=>by cases z),e0.funs,e0.frf,e0.tb⟩,
  rfl,e0.bare,Un.kept old,⟨_,hns,fun i y v' e1 e2 e3=>?_⟩,fun y c e=>?_,e0.hok.fresh (qAg _),fun y c e=>?_,(fun p hp=>by cases hp),e0.hok.kept old,?_⟩
 ·have hy':scope.names.lookup y=some .cell∨scope.names.lookup y=some .free:=hy
  rcases hy' with z|z
  ·exact absurd rfl (O.cell _ (Bh z))
  ·exact hcl2 y (Bh z)
 ·cases i with
  |zero =>
   have e1':y=x:=qAn (e1.symm.trans O.fst)
   subst e1'
   cases e2
   exact⟨u,r,.inl ⟨O.own,by simp⟩⟩
  |succ k =>
   obtain⟨j,ej,es⟩:=F5 (k:=k) e2
   obtain⟨y',n1,n2,n3⟩:=O.cap k j ej
   have ey:y'=y:=qAn (n1.symm.trans e1)
   subst ey
   have kc:=O.free _ (Bh n3) rfl
   obtain⟨m0,hn0,hl0⟩:=I1.loc
   obtain⟨u',ru,lk⟩:=hl0 j y' v' n2 es (.inr (.inl kc))
   refine⟨u',ru,?_⟩
   rcases lk with⟨k1,_⟩|⟨_,c,hc,ic⟩
   ·rw[kc] at k1;cases k1
   ·obtain⟨c',hc'⟩:=hcl2 y' (Bh n3)
    have:c'=c:=qAn ((hcl y' c' hc').symm.trans hc)
    subst this
    exact .inr ⟨.inr n3,c',hc',(kept y' c' hc _ ic).1⟩
 ·obtain⟨z,ic⟩:=I1.cell y c (hcl y c e)
  exact⟨z,(kept y c (hcl y c e) z ic).1⟩
 ·obtain⟨z,ic⟩:=I1.cell y c (hcl y c e)
  exact(kept y c (hcl y c e) z ic).2
 ·show(some v::Dd σ idx).length=N.length
  rw[O.len,qAd]
  unfold Dd
  rw[qAf]
theorem G1 {τ:Tau}{idx:List Nat}{k:Nat}{y:S} (h:(HG τ idx)[k]? = some (some y)):∃j d,idx[k]? = some j∧y=.d d∧τ[j]? = some (some (.d d)):=by
 unfold HG at h
 rw[qAl] at h
 cases e:idx[k]? with
 |none=>rw[e] at h;cases h
 |some j =>
  rw[e] at h
  have h':=qAn h
  dsimp only at h'
  split at h'
  ·rename_i d hd
   exact⟨j,d,rfl,(qAn h').symm,hd⟩
  ·cases h'
theorem S3 (O:BG X x scope N idx)(hfn:∀y,X.fn y=true)(I1:Inv X pins σ H1 s1)(hcl:∀y c,cl.lookup y=some c→X.env.cells.lookup y=some c)(hcl2:∀y,(y,NameKind.free)∈scope.names→∃c,cl.lookup y=some c)
 {a c':Addr}{fo oc:Obj}{fs:Array Value}{nm qual:Str}{tq kb:Nat}{u1 u2:HO}{params:Arguments}{body:Expr}{pm ctv:Value}{tb:TE3}{dom:D→Prop}{p:D→Bool}{B:HZ}{z:Hp}{τ:Tau}
 (ha:H1 a=some (.frz fo u1)) (hfo:fo.data=.func (qCf "<lambda>" qual params body scope cl pm (.ref c') ctv)) (hc:H1 c'=some (.frz oc u2)) (hoc:oc.data=.fields fs) (hfs:fs[1]? = some (.str nm tq))
 (hco:scope.isCoroutine=false) (hgen:scope.isGenerator=false) (hbind:∀(q:Str)(cl:List (Str×Addr))(pm cv ct u:Value),bindArgs (qCf "<lambda>" q params body scope cl pm cv ct) ⟨[u],[]⟩=pure [(x,u)])
 (hb:∀cl nm a cdv A outer s H,Be kb (A.deeper (PySem.W.envX nm scope s.heap.objs.size a cdv cl))→PE3 (Ql X N scope cl nm a cdv A outer s H) body tb)
 (rep:Rep X B τ σ ⟨H1,z⟩) (hdom:∀x,dom x→tb (some (.d x)::HG τ idx) fun s=>s=.d (.bl (p x))):MX X.prog X.w X.K X.mg X.base (kb+1) s1 H1 (frs X.stack) a dom p:=by
 refine⟨⟨fo,u1,_,ha,hfo⟩,fun A outer s' H' v u d hr e0 st sm rv is dm=>?_⟩
 have ga:s'.heap.get? a=some fo:=(e0.hok a _ (sm _ _ ha)).1
 have gc:s'.heap.get? c'=some oc:=(e0.hok c' _ (sm _ _ hc)).1
 have lim:s'.heap.NoLimit:=e0.mod.nolimit.keeps fun b o e=>(e0.bs b o e).1
 refine P1 (nm:=nm) hr.depth ga hfo hco hgen rfl ⟨c',oc,fs,tq,rfl,gc,hoc,hfs⟩ ?_
 rw[hbind]
 refine wpAny_pure (wpAny_newFunctionEnv O.cell (fun y hy=>?_) (fun h1 hns hsb=>?_) O.kind)
 ·have:y=(x,u):=by simpa using hy
  subst this
  exact O.own
 have old:∀b o,s'.heap.get? b=some o→h1.get? b=some o:=fun b o e=>hsb.extBut b o (qAo (qAh e)) (qAb _ e)
 refine⟨lim.keeps old,?_⟩
 show codeAny _ _ (.expr body (PySem.W.envX nm scope s'.heap.objs.size a (.ref c') cl)) _ _
 have J:=Kk (nm:=nm) (a:=a) (cdv:=.ref c') (tk:=s'.toks + [(x,u)].length) O hfn I1 hcl hcl2 e0 hr.hd st rv hns old
 refine PySem.W.kla_codeExpr (wpAny_mono ((hb cl nm a (.ref c') A outer s' H' (hr.deeper _)).out [] _ _ H' (fun r H2=>r=.bl (p d)∧AU H' H2) J ⟨⟨H',H'⟩,H',some (.d d)::HG τ idx,fun s=>s=.d (.bl (p d)),?_,hdom d dm,fun s2 v2 q2 e2 i2 f2 h2=>?_⟩)
  (fun r s2 ⟨v2,H2,J2,r2,hq⟩=>⟨v2,H2,J2.os,J2.bare,J2.base,J2.hok,r2,hq⟩) fun _ _ z=>z.elim)
 ·have noL:∀(i:Nat)(xs:List D),¬(some (S.d d)::HG τ idx)[i]? = some (some (.l xs)):=fun i xs z=>by
   cases i with
   |zero=>cases z
   |succ k=>obtain⟨_,_,_,e,_⟩:=G1 (k:=k) z;cases e
  refine⟨by simp[Dd,HG],Ext.refl (AU.refl _),fun i y hy=>?_,fun i xs _ z _=>absurd z (noL i xs),fun i _ xs _ _ _ z _ _ _=>absurd z (noL i xs),fun _=>AU.refl _,fun k a h=>by cases h⟩
  cases i with
  |zero=>cases hy;exact⟨v,rfl,is⟩
  |succ k =>
   obtain⟨j,y',ej,ey,et⟩:=G1 (k:=k) hy
   subst ey
   obtain⟨v',e1,e2⟩:=rep.val j _ et
   refine⟨v',?_,(Is.mono rep.ext.sub e2).mono sm⟩
   show(Dd σ idx)[k]? = _
   unfold Dd
   rw[qAl,ej]
   show some ((σ[j]?).getD none)=_
   rw[e1]
   rfl
 ·subst h2
  exact⟨Is.bl_inv i2,e2.hh⟩
end
section
variable {X:Cx}{pins:List (Addr×Obj)}{σ:St}{H:Hp}{s:Shared}
theorem F3 {pos pos':Pos}{c cv:Value}:∀(l:List Value),TriplesOk l→codeAmong pos' (l++[rawInt pos.line,rawInt pos.col,c])=some cv→codeAmong pos' l=some cv∨cv=c:=by
 intro l h
 fun_induction TriplesOk l with
 |case1 =>
  intro e
  simp only[qBP,codeAmong,rawInt] at e
  split at e
  ·exact .inr (qAn e).symm
  ·cases e
 |case2 a t b u x Cp ih =>
  intro e
  simp only[qBG,codeAmong] at e ⊢
  split at e
  ·rename_i hc;rw[if_pos hc];exact .inl e
  ·rename_i hc;rw[if_neg hc];exact ih h e
 |case3 l h1 h2=>exact h.elim
theorem Mw {x:Str}{c T:Addr}{params:Arguments}{body:Expr}{scope:Scope}{pos:Pos}{cl:List (Str×Addr)}{E:Value→Shared→Prop}{QQ:Value→Shared→Prop} (I:Inv X pins σ H s) (ht:PySem.W.tabIn X.K x=some (c,T)) (hp:(recsOf X.prog).any (fun d=>d.name==x)=true)
 (hcode:X.env.code=.ref c) (hdef:defaultsOf params X.env=([],[])) (hcl:closureFor scope X.env=pure cl)
 (h:∀(a c':Addr)(H':Hp)(s':Shared)(fo oc:Obj)(fs:Array Value)(nm qual:Str)(tq:Nat)(pm ctv:Value),Inv X pins σ H' s'→AU H H'→H' a=some (.frz fo (.own T))→fo.data=.func (qCf "<lambda>" qual params body scope cl pm (.ref c') ctv) →
  H' c'=some (.frz oc (.own T))→oc.data=.fields fs→fs[1]? = some (.str nm tq)→QQ (.ref a) s') :
 wpAny (model X.prog X.w) X.A (eval (.Lambda params body scope pos) X.env) QQ E s:=by
 obtain⟨hd,ps,hT⟩:=I.tb.tab x c T ht hp
 obtain⟨bm,ob,b1,b2,b3,b4,b5,b6⟩:=I.tb.bm
 obtain⟨tab,e1,tr,cod⟩:=(show Ia H s.heap T from I.hok T _ hT)
 have tabNe:∀{b:Addr}{o:Obj},X.base.get? b=some o→b≠T:=fun {b o} e z=>by
  have:=(I.bs b o e).2
  rw[z,hT] at this
  cases this
 have hgs:s.heap.Ns mainGlobals X.mg:=I.mod.glob.keeps I.bk
 have hgT:mainGlobals≠T:=by
  obtain⟨o,_,_,e,_⟩:=I.mod.glob
  exact tabNe e
 have hbG:bm≠mainGlobals:=fun z=>by
  obtain⟨o,es,ep,e,d,_⟩:=I.mod.glob
  rw[z,e] at b3;cases b3;rw[d] at b6;cases b6
 have hB:s.heap.BuiltinsAt X.mg T:=⟨bm,ob,b1,b2,hbG,tabNe b3,I.bk _ _ b3,b4,b5,b6⟩
 refine PySem.W.kla_eval hdef ?_
 cases hf:codeAmong pos tab.toList with
 |some cv =>
  obtain⟨c',oc,fs,nm,tq,rfl,hc',hoc,hfs⟩:=cod pos cv hf
  refine PySem.W.kla_makeFunctionHit (mg:=X.mg) hcl I.ok.glob hgs hcode (hd.keeps I.bk) e1 tr hf hB fun ctv h' tk old sz=>?_
  refine h h'.objs.size c' (upd H h'.objs.size (.frz _ (.own T))) _ _ oc fs nm _ tq _ ctv (I.laid (fun b o e=>qAb _ (old b o e)) sz ⟨qAm _ rfl,_,qAm _ rfl⟩) (AY (I.hok.fresh sz) _) Ac rfl ?_ hoc hfs
  rw[Af (qAo (qAr (I.hok.lt hc') sz))]
  exact hc'
 |none =>
  refine PySem.W.kla_makeFunction (mg:=X.mg) hcl I.ok.glob hgs hcode (hd.keeps I.bk) e1 tr hf hgT hB fun c' ctv h' tk hx hge hlt hrec htb=>?_
  obtain⟨c2,oc,fs,tq,ec,hoc,hdt,hfs⟩:=hrec
  cases ec
  have nT:∀{b:Addr}{o:Obj},s.heap.get? b=some o→b≠T→h'.get? b=some o:=fun {b o} e z=>hx b o z e
  have fresh1:H c'=none:=I.hok.fresh hge
  have cT:T≠c':=qAo (qAr (qAh e1) hge)
  have s1:AU H (upd H c' (.frz oc (.own T))):=AY fresh1 _
  have ok1:HOk X.prog X.w (upd H c' (.frz oc (.own T))) h':=fun b u e=>by
   by_cases hb:b=c'
   ·subst hb
    rw[Ac] at e
    cases e
    exact⟨hoc,oc,hoc⟩
   ·rw[Af hb] at e
    by_cases hb2:b=T
    ·subst hb2
     rw[hT] at e
     cases e
     refine⟨_,htb,by rw[Array.toList_append];exact TriplesOk_snoc _ _ _ _ tr,fun pos' cv z=>?_⟩
     rw[Array.toList_append] at z
     rcases F3 _ tr z with z|z
     ·obtain⟨c3,o3,f3,n3,t3,q1,q2,q3⟩:=cod pos' cv z
      exact⟨c3,o3,f3,n3,t3,q1,s1 _ _ q2,q3⟩
     ·exact⟨c',oc,fs,_,tq,z,Ac,hdt,hfs⟩
    ·refine(I.hok b u e).stay (hf:=fun d w1 w2 q=>s1 _ _ q) (fun d o hdd q=>nT q ?_) (fun d q=>s1 _ _ q) fun d xs q=>s1 _ _ q
     rcases hdd with rfl|hdd
     ·exact hb2
     ·rintro rfl
      rw[hT] at hdd
      cases hdd
  have un1:Un X.fs [] H (upd H c' (.frz oc (.own T))) s.heap h':=by
   refine⟨fun b o e n _ _=>nT e (fun z=>by rw[z,hT] at n;cases n),fun b o e n _ _=>⟨o.slots,nT e (fun z=>by rw[z,hT] at n;cases n)⟩,fun b o e n _=>?_,fun b o e _=>?_,fun b xs q=>s1 _ _ q,fun b o u q=>s1 _ _ q,fun b ps q=>⟨#[],by rw[s1 _ _ q];simp⟩⟩
   ·rw[Af (qAo (qAr (qAh e) hge))];exact n
   ·by_cases z:b=T
    ·subst z;exact⟨_,htb⟩
    ·exact⟨o,nT e z⟩
  have I1:Inv X pins σ (upd H c' (.frz oc (.own T))) { s with heap:=h',toks:=tk }:=I.un un1 ok1
  have I2:=I1.laid (a:=h'.objs.size) (o:=.frz (PySem.W.kla_obj "<lambda>" (X.env.qual ++ "<lambda>") params body scope cl ((X.mg "__name__").getD .none) c' ctv) (.own T)) (t':=tk) (h':=h'.push (PySem.W.kla_obj "<lambda>" (X.env.qual ++ "<lambda>") params body scope cl ((X.mg "__name__").getD .none) c' ctv))
   (fun b o e=>qAb _ e) (qAg _) ⟨qAm _ rfl,_,qAm _ rfl⟩
  refine h h'.objs.size c' _ _ _ oc fs _ _ tq _ ctv I2 (s1.trans (AY (I1.hok.fresh (qAg _)) _)) Ac rfl ?_ hdt hfs
  rw[Af (qAo hlt)]
  exact Ac
end
abbrev SpL:=Addr→(D→Prop)→(D→Bool)→Sp3
structure Kz (P:Program)(w:World)(K:PySem.W.Frag)(mg:Str→Option Value)(base:Heap)(k kl:Nat)(f:Addr)(fd:FuncData)(ps:List Str)(sp:SpL):Prop where
 len:∀a dom p ss R U,sp a dom p ss R U→ss.length=ps.length
 run:∀(A:Around)(outer:List Env)(s:Shared)(H:Hp)(args:PySem.Args)(us:List Value)(vs:List V)(Q:VK)(E:XK)(a:Addr)(dom:D→Prop)(p:D→Bool),Be k A→JA P w K mg base A outer s H→BindsTo s fd args (ps.zip us)→AA vs us →
  MX P w K mg base kl s H (frs outer) a dom p→An K mg (sp a dom p) vs H Q E→codeAny (model P w) A (.call (.ref f) args) (CR CX0 outer P w H s Q E) s
structure Wl (P:Program)(w:World)(K:PySem.W.Frag)(mg:Str→Option Value)(base:Heap)(k kl:Nat)(x:Str)(ps:List Str)(sp:SpL):Prop where
 ex:∃f fd,Kz P w K mg base k kl f fd ps sp∧mg x=some (.ref f)∧PySem.W.keepIn K (.ref f)=true∧Binds K fd ps []
section
variable {P:Program}{w:World}{K:PySem.W.Frag}{mg:Str→Option Value}{base:Heap}
theorem fnL {x qual:Str}{st:Stmt}{f:Addr}{fd:FuncData}{N ps:List Str}{k kl:Nat}{sp:SpL} (F:Fun K x qual st f fd) (Sc:Av N ps (Ae st)) (len:∀a dom p ss R U,sp a dom p ss R U→ss.length=ps.length)
 (hbody:∀(cdv:Value)(A:Around)(outer:List Env)(s:Shared)(H:Hp)(E:XK)(a:Addr)(dom:D→Prop)(p:D→Bool)(ss:List S)(R:S→Prop)(U:Str→Prop),Be k (A.deeper (envOfC qual (Ae st) s.heap.objs.size f cdv))→MX P w K mg base kl s H (frs outer) a dom p→sp a dom p ss R U →
  ∃t,C4 (Fn CX0 P w K mg base N qual (Ae st) f cdv A outer s H E).nox (A4 st) t∧t { nx:=fun _=>R (.d .non),rt:=R } (B7 N ss)):Kz P w K mg base (k+1) kl f fd ps sp:=by
 obtain⟨oc,od,kV,doc,pm,an,cdv,ct,osl,rfl,lk,hcd⟩:=F.ex
 refine⟨len,fun A outer s H args us vs Q E a dom p hr e0 hb rv hL hh=>?_⟩
 obtain⟨z,ss,R,U,hz,ha,h3,q,qe⟩:=hh
 have hl:vs.length=ps.length:=ha.1.trans (len _ _ _ _ _ _ h3)
 have KX:K.In s.heap:=e0.mod.kin.keeps fun b o e=>(e0.bs b o e).1
 have lim:s.heap.NoLimit:=e0.mod.nolimit.keeps fun b o e=>(e0.bs b o e).1
 refine codeAny_call_function hr.depth (KX _ _ lk) rfl Sc.co Sc.gen rfl (PySem.W.codeRec_of KX hcd) (hb _ _ _ _ ?_)
 refine wpAny_newFunctionEnv_cells Sc.kind (fun y hy=>?_) fun env he s1 xx=>?_
 ·obtain⟨n,v⟩:=y
  rcases Sc.par n (qBO hy).1 with g|g
  ·exact .inl g
  ·exact .inr ⟨g,qB0 _ _ _ (.inl g)⟩
 subst he
 refine⟨lim.keeps xx.toInCall.keep,codeAny_func ?_⟩
 obtain⟨t,ht,hq⟩:=hbody cdv A outer s H E a dom p ss R U (hr.deeper _) hL h3
 have I:Inv (Fn CX0 P w K mg base N qual (Ae st) f cdv A outer s H E) [] (start N vs) H s1:=GW Sc hr.hd e0 hl rv xx
 refine wpAny_mono (ht.out.nox [] s1 (start N vs) H { nx:=fun _ H'=>Q .non H',rt:=Q } I ⟨⟨H,z⟩,z,B7 N ss,_,CM ha hz (AU.refl H),hq,⟨fun τ σ p r h=>q (.d .non) _ p r.ext Is.non Bp h,fun _ _ _ _ z=>z.elim,fun _ _ _ _ z=>z.elim,fun s v p e i f h=>q s v p e i f h⟩⟩) (fun fl s' hs=>?_) fun e s' hs=>hs
 have fin:∀{σ':St}{H':Hp}{v:V}{u:Value},Inv (Fn CX0 P w K mg base N qual (Ae st) f cdv A outer s H E) [] σ' H' s'→AN v u→Q v H'→CE outer P w H s Q u s' :=
  fun {σ' H' v u} J rv q=>⟨v,H',J.os,J.bare,J.base,J.hok,rv,q⟩
 cases fl with
 |ret u =>
  obtain⟨v,σ',H',J,rv,q⟩:=hs
  exact fin J rv q
 |next =>
  obtain⟨σ',H',J,q⟩:=hs
  exact fin (v:=V.non) (u:=Value.none) J rfl q
 |brk=>obtain⟨_,_,_,g⟩:=hs;exact False.elim g
 |cont=>obtain⟨_,_,_,g⟩:=hs;exact False.elim g
end
section
variable {X:Cx}{pos:Pos}{e:Expr}{te tb:TE3}
theorem Q3 {outer:List Env}{P:Program}{w:World}{H:Hp}{s s':Shared}{Q Q':VK}{u:Value} (h:CE outer P w H s Q u s') (f:∀v H',Q v H'→Q' v H'):CE outer P w H s Q' u s' :=
 let ⟨v,H',a,b,c,d,r,q⟩:=h;⟨v,H',a,b,c,d,r,f _ _ q⟩
def Sk (i:Nat)(a:Addr)(dom:D→Prop)(p:D→Bool)(te:TE3):TE3:=fun τ R=>τ[i]? = some (some (.d (.ref a)))∧te τ fun s=>dd s fun x=>dom x∧R (.d (.bl (p x)))
theorem UG {i k:Nat}{x:Str}{np:Pos}{a:Addr}{dom:D→Prop}{p:D→Bool} (hL:MX X.prog X.w X.K X.mg X.base k X.s₀ X.H₀ X.fs a dom p) (hr:Be k X.A) (hv:PE X (.Name x np) (Gw i)) (he:PE3 X e te) (hex:X.ex=[]:=by rfl) (hl:X.lent=none:=by rfl)
 (hs:starEach [e] X.env=(false,eval e X.env)::starEach [] X.env:=by exact AI rfl):PE3 X (.Call (.Name x np) [e] [] pos) (Sk i a dom p te):=by
 refine⟨fun pins s σ H Q I hh=>?_⟩
 obtain⟨B,z,τ,R,r,⟨hi,ht⟩,q⟩:=hh
 obtain⟨v,h1,h2⟩:=r.val i _ hi
 have ev:v=.ref a:=by
  have h2':Is X.K z v (.ref a):=h2
  cases h2';rfl
 subst ev
 obtain⟨o,uu,fd,ho,hfd⟩:=hL.obj
 refine wpAny_Call_Name_kw (thn (hv pins s σ H (fun v' H'=>v'=.ref a∧H'=H) I ⟨_,h1,rfl,rfl⟩) fun f s1 hh=>?_)
 obtain⟨v',H',I1,rv,e1,e2⟩:=hh
 subst e1;subst e2
 obtain rfl:f=Value.ref a:=rv
 have pa:wpAny (model X.prog X.w) X.A (spliced (backTo pos (starEach [e] X.env))) _ X.xe s1:=(Az he.out A5 hs) pos pins s1 σ H' (fun vs H1=>∃y z1 x,vs=[y]∧Ext ⟨H',z⟩ ⟨H1,z1⟩∧Is X.K z1 y x∧dom x∧R (.d (.bl (p x)))) I1 ⟨B,z,τ,_,r,ht,fun s2 v2 q2 e2 i2 f2 h2=>by
  obtain⟨x,rfl,hx⟩:=Cm h2
  exact⟨v2,q2.z,x,rfl,e2,i2,hx⟩⟩
 rw[hs] at pa ⊢
 refine PySem.W.callWith_of (P:=fun h=>∃ob,h.get? a=some ob∧ob.data=.func fd) rfl (fun h ⟨ob,g1,g2⟩=>⟨.frame,.inl rfl,?_⟩) (Calls.evalArgs_plain (thn pa fun us s2 ⟨vs,H2,I2,rv2,y,z1,x,evs,e2,i2,dm,hR⟩=>?_))
 ·obtain⟨oc,od,od2,osl⟩:=ob
  cases g2
  exact(PySem.W.Looks.ld (part:=none) g1).andThen .now
 subst evs
 have sm:AU X.H₀ H2:=(r.all hl).trans e2.hh
 obtain⟨u,rfl,ru⟩:∃u,us=[u]∧AN y u:=by
  cases rv2 with
  |cons a b=>cases b;exact⟨_,rfl,a⟩
 refine⟨⟨o,(I2.hok a _ (sm _ _ ho)).1,hfd⟩,wpAny_call (codeAny_mono (hL.run X.A X.stack s2 H2 y u x hr I2.env0 (fun b ob g1 g2 g3=>⟨I2.base.keep b ob g1 g2 g3 (by rw[hex];simp),I2.base.free b ob g1 g2 (by rw[hex];simp)⟩) sm ru (Is.mono e2.sub i2) dm) fun r2 s3 hq=>?_)⟩
 cases r2 with
 |error e=>exact hq.elim
 |ok fl =>
  cases fl with
  |ret u2 =>
   refine I2.after (Q3 hq fun v3 H3 h3=>?_)
   obtain⟨rfl,sm3⟩:=h3
   exact q (.d (.bl (p x))) _ ⟨H3,z1⟩ (e2.trans (Ext.grow e2.sub sm3)) (.bl _) Bp hR
  |next=>exact False.elim hq
  |brk=>exact False.elim hq
  |cont=>exact False.elim hq
def Ss (sp:SpL)(U:Str→Prop)(idx:List Nat)(te tb:TE3):TE3:=fun τ R=>te τ fun s=>∃(dom:D→Prop)(p:D→Bool),(∀x,dom x→tb (some (.d x)::HG τ idx) fun s=>s=.d (.bl (p x)))∧dd s fun d=>∀a,sp a dom p [.d d,.d (.ref a)] R U
theorem VU {k kb:Nat}{g x y:Str}{np lp:Pos}{ps:List Str}{sp:SpL}{c T:Addr}{params:Arguments}{body:Expr}{scope:Scope}{N:List Str}{idx:List Nat} (cal:Wl X.prog X.w X.K X.mg X.base k (kb+1) g ps sp) (hr:Be k X.A) (hg:Gl X g)
 (ht:PySem.W.tabIn X.K y=some (c,T)) (hp:(recsOf X.prog).any (fun d=>d.name==y)=true) (hcode:X.env.code=.ref c) (O:BG X x scope N idx) (he:PE3 X e te)
 (hb:∀cl nm a cdv A outer s H,Be kb (A.deeper (PySem.W.envX nm scope s.heap.objs.size a cdv cl))→PE3 (Ql X N scope cl nm a cdv A outer s H) body tb)
 (hfn:∀y,X.fn y=true:=by intro _;rfl) (hdef:defaultsOf params X.env=([],[]):=by rfl) (hco:scope.isCoroutine=false:=by rfl) (hgen:scope.isGenerator=false:=by rfl)
 (hbind:∀(q:Str)(cl:List (Str×Addr))(pm cv ct u:Value),bindArgs (qCf "<lambda>" q params body scope cl pm cv ct) ⟨[u],[]⟩=pure [(x,u)]:=by intros;rfl)
 (hdb:(g==("__debug__":Str))=false:=by decide) (hs:starEach [e,.Lambda params body scope lp] X.env=(false,eval e X.env)::starEach [.Lambda params body scope lp] X.env:=by exact AI rfl) :
 PE3 X (.Call (.Name g np) [e,.Lambda params body scope lp] [] pos) (Ss sp NoU idx te tb):=by
 refine⟨fun pins s σ H Q I hh=>?_⟩
 obtain⟨B,z,τ,R,r,ht1,q⟩:=hh
 obtain⟨f,fd,F,hm,hk,hbi⟩:=cal.ex
 obtain⟨cl,ecl,hcl,hcl2⟩:=Fd (scope:=scope) (env:=X.env) fun y hy hf=>I.ok.has y.1 (.inl (O.free y hy hf))
 refine wpAny_Call_Name_kw (Bv I hg hm ?_ hdb)
 refine qBj (h₀:=X.base) I.ok.mod.kin hk ?_ hs rfl
 rw[hs]
 refine Calls.spliced_cons (thn (he.out pins s σ H (fun v1 H1=>∃z1 d,Ext ⟨H,z⟩ ⟨H1,z1⟩∧Is X.K z1 v1 d∧∃(dom:D→Prop)(p:D→Bool),(∀x,dom x→tb (some (.d x)::HG τ idx) fun s=>s=.d (.bl (p x)))∧∀a,sp a dom p [.d d,.d (.ref a)] R NoU) I ⟨B,z,τ,_,r,ht1,fun s2 v2 q2 e2 i2 f2 h2=>?_⟩) fun u1 s1 ⟨v1,H1,I1,rv1,z1,d,e1,i1,dom,p,hdom,hsp⟩=>?_)
 ·obtain⟨dom,p,hdom,h3⟩:=h2
  obtain⟨d,rfl,h4⟩:=Cm h3
  exact⟨q2.z,d,e2,i2,dom,p,hdom,h4⟩
 have hs2:starEach [Expr.Lambda params body scope lp] X.env=(false,eval (.Lambda params body scope lp) X.env)::starEach [] X.env:=AI rfl
 rw[hs2]
 refine Calls.spliced_cons (Mw I1 ht hp hcode hdef ecl fun a c' H2 s2 fo oc fs nm qual tq pm ctv I2 sm ha hfo hc hoc hfs=>?_)
 refine Calls.spliced_nil ⟨I2.kIn,?_⟩
 have e12:Ext ⟨H,z⟩ ⟨H2,z1⟩:=e1.trans (Ext.grow e1.sub sm)
 have r2:Rep X B τ σ ⟨H2,z1⟩:=r.mono e12
 have hL:=S3 O hfn I2 hcl hcl2 ha hfo hc hoc hfs hco hgen hbind hb r2 hdom
 have i1':Is X.K z1 v1 d:=i1
 have hl:[u1,Value.ref a].length=ps.length:=F.len a dom p _ _ _ (hsp a)
 have rvs:AA [v1,V.ref a] [u1,Value.ref a]:=.cons rv1 (.cons rfl .nil)
 refine wpAny_call (codeAny_mono (F.run X.A X.stack s2 H2 ⟨[u1,.ref a],[]⟩ [u1,.ref a] [v1,.ref a] Q (fun _ _ _=>False) a dom p hr I2.env0 ?_ rvs hL ⟨z1,[.d d,.d (.ref a)],R,NoU,e12.sub,⟨rfl,fun i v s h1 h2=>?_⟩,hsp a,fun s v q3 e3 i3 f3 h3=>q s v q3 (e12.trans e3) i3 (CA e12 f3) h3,fun _ _ _ _ _ z=>z.elim⟩) fun rr s3 hq=>?_)
 ·have:=hbi s2 [u1,.ref a] I2.kIn (by simpa using hl)
  simpa using this
 ·match i,h1,h2 with
  |0,h1,h2=>cases h1;cases h2;exact⟨i1',rfl⟩
  |1,h1,h2=>cases h1;cases h2;exact⟨Is.ref a,rfl⟩
 cases rr with
 |error e=>exact(show False from hq).elim
 |ok fl =>
  cases fl with
  |ret u=>exact I2.after hq
  |next=>exact False.elim hq
  |brk=>exact False.elim hq
  |cont=>exact False.elim hq
end
theorem Jc {K:PySem.W.Frag}{x:Str}{c T f:Addr}{oc:Value}{od:Option Addr}{fd:FuncData}{osl:Array (Option Value)} (ht:PySem.W.tabIn K x=some (c,T)) (hn:PySem.W.nsIn K mainGlobals x=some (some (.ref f))) (lk:K.lookup f=some ⟨oc,od,.func fd,osl⟩):fd.code=.ref c:=by
 unfold PySem.W.tabIn at ht
 rw[hn] at ht
 dsimp only at ht
 rw[lk] at ht
 dsimp only at ht
 split at ht
 ·rename_i c2 hc
  split at ht
  ·split at ht
   ·cases ht;exact hc
   ·cases ht
  ·cases ht
 ·cases ht
section
variable {P:Program}{w:World}{K:PySem.W.Frag}{mg:Str→Option Value}{base:Heap}
theorem ZR {x qual:Str}{st:Stmt}{f c T:Addr}{fd:FuncData}{N ps:List Str}{k:Nat}{sp:Sp3} (ht:PySem.W.tabIn K x=some (c,T)) (hn:PySem.W.nsIn K mainGlobals x=some (some (.ref f))) (F:Fun K x qual st f fd) (Sc:Av N ps (Ae st)) (len:∀ss R U,sp ss R U→ss.length=ps.length)
 (hbody:∀(cdv:Value)(A:Around)(outer:List Env)(s:Shared)(H:Hp)(E:XK)(ss:List S)(R:S→Prop)(U:Str→Prop),cdv=.ref c→Be k (A.deeper (envOfC qual (Ae st) s.heap.objs.size f cdv))→sp ss R U →
  O6 (Fn (CXU P w) P w K mg base N qual (Ae st) f cdv A outer s H E) U →
  ∃t,C4 (Fn (CXU P w) P w K mg base N qual (Ae st) f cdv A outer s H E) (A4 st) t∧t { nx:=fun _=>R (.d .non),rt:=R } (B7 N ss)):AJ P w K mg base (CXU P w) (k+1) f fd ps (An K mg sp):=by
 obtain⟨oc,od,kV,doc,pm,an,cdv,ct,osl,rfl,lk,hcd⟩:=F.ex
 have ec:cdv=.ref c:=Jc ht hn lk
 refine JF lk hcd Sc (fun vs H Q E hh=>by obtain⟨z,ss,R,U,hz,ha,h3,_⟩:=hh;exact ha.1.trans (len ss R U h3)) fun A outer s H vs Q E hr hh9=>?_
 obtain⟨z,ss,R,U,hz,ha,h3,q,qe⟩:=hh9
 obtain⟨t,ht,hq⟩:=hbody cdv A outer s H E ss R U ec hr h3 (Ku qe)
 exact⟨_,ht.out,⟨H,z⟩,z,B7 N ss,_,CM ha hz (AU.refl H),hq,⟨fun τ σ p r h=>q (.d .non) _ p r.ext Is.non Bp h,fun _ _ _ _ z=>z.elim,fun _ _ _ _ z=>z.elim,fun s v p e i f h=>q s v p e i f h⟩⟩
theorem ZV {x qual:Str}{st:Stmt}{f c T:Addr}{fd:FuncData}{N ps:List Str}{k:Nat}{sp:Sp3} (ht:PySem.W.tabIn K x=some (c,T)) (hn:PySem.W.nsIn K mainGlobals x=some (some (.ref f))) (F:Fun K x qual st f fd) (Sc:Av N ps (Ae st)) (len:∀ss R U,sp ss R U→ss.length=ps.length)
 (hbody:∀(cdv:Value)(A:Around)(outer:List Env)(s:Shared)(H:Hp)(E:XK)(ss:List S)(R:S→Prop)(U:Str→Prop),cdv=.ref c→Be k (A.deeper (envOfC qual (Ae st) s.heap.objs.size f cdv))→sp ss R U →
  ∃t,C4 (Fn CX0 P w K mg base N qual (Ae st) f cdv A outer s H E).nox (A4 st) t∧t { nx:=fun _=>R (.d .non),rt:=R } (B7 N ss)):AJ P w K mg base CX0 (k+1) f fd ps (An K mg sp):=by
 obtain⟨oc,od,kV,doc,pm,an,cdv,ct,osl,rfl,lk,hcd⟩:=F.ex
 have ec:cdv=.ref c:=Jc ht hn lk
 refine JF lk hcd Sc (fun vs H Q E hh=>by obtain⟨z,ss,R,U,hz,ha,h3,_⟩:=hh;exact ha.1.trans (len ss R U h3)) fun A outer s H vs Q E hr hh9=>?_
 obtain⟨z,ss,R,U,hz,ha,h3,q,qe⟩:=hh9
 obtain⟨t,ht,hq⟩:=hbody cdv A outer s H E ss R U ec hr h3
 exact⟨_,ht.out.nox,⟨H,z⟩,z,B7 N ss,_,CM ha hz (AU.refl H),hq,⟨fun τ σ p r h=>q (.d .non) _ p r.ext Is.non Bp h,fun _ _ _ _ z=>z.elim,fun _ _ _ _ z=>z.elim,fun s v p e i f h=>q s v p e i f h⟩⟩
end
theorem BW {us:List Value}{n:Nat} (h:us.length=n+1):∃x r,us=x::r∧r.length=n:=by
 cases us with
 |nil=>cases h
 |cons x r=>exact⟨x,r,rfl,Nat.succ.inj h⟩
theorem HS {us:List Value} (h:us.length=1):∃x0,us=[x0]:=by
 obtain⟨x0,r0,e0,h0⟩:=BW h
 have e:=qAA h0
 exact⟨x0,by rw[e0,e]⟩
theorem MC {us:List Value} (h:us.length=2):∃x0 x1,us=[x0,x1]:=by
 obtain⟨x0,r0,e0,h0⟩:=BW h
 obtain⟨x1,r1,e1,h1⟩:=BW h0
 have e:=qAA h1
 exact⟨x0,x1,by rw[e0,e1,e]⟩
theorem Rp {us:List Value} (h:us.length=3):∃x0 x1 x2,us=[x0,x1,x2]:=by
 obtain⟨x0,r0,e0,h0⟩:=BW h
 obtain⟨x1,r1,e1,h1⟩:=BW h0
 obtain⟨x2,r2,e2,h2⟩:=BW h1
 have e:=qAA h2
 exact⟨x0,x1,x2,by rw[e0,e1,e2,e]⟩
theorem OF {us:List Value} (h:us.length=4):∃x0 x1 x2 x3,us=[x0,x1,x2,x3]:=by
 obtain⟨x0,r0,e0,h0⟩:=BW h
 obtain⟨x1,r1,e1,h1⟩:=BW h0
 obtain⟨x2,r2,e2,h2⟩:=BW h1
 obtain⟨x3,r3,e3,h3⟩:=BW h2
 have e:=qAA h3
 exact⟨x0,x1,x2,x3,by rw[e0,e1,e2,e3,e]⟩
theorem Zf {us:List Value} (h:us.length=5):∃x0 x1 x2 x3 x4,us=[x0,x1,x2,x3,x4]:=by
 obtain⟨x0,r0,e0,h0⟩:=BW h
 obtain⟨x1,r1,e1,h1⟩:=BW h0
 obtain⟨x2,r2,e2,h2⟩:=BW h1
 obtain⟨x3,r3,e3,h3⟩:=BW h2
 obtain⟨x4,r4,e4,h4⟩:=BW h3
 have e:=qAA h4
 exact⟨x0,x1,x2,x3,x4,by rw[e0,e1,e2,e3,e4,e]⟩
theorem ZC {us:List Value} (h:us.length=6):∃x0 x1 x2 x3 x4 x5,us=[x0,x1,x2,x3,x4,x5]:=by
 obtain⟨x0,r0,e0,h0⟩:=BW h
 obtain⟨x1,r1,e1,h1⟩:=BW h0
 obtain⟨x2,r2,e2,h2⟩:=BW h1
 obtain⟨x3,r3,e3,h3⟩:=BW h2
 obtain⟨x4,r4,e4,h4⟩:=BW h3
 obtain⟨x5,r5,e5,h5⟩:=BW h4
 have e:=qAA h5
 exact⟨x0,x1,x2,x3,x4,x5,by rw[e0,e1,e2,e3,e4,e5,e]⟩
open Classical in
theorem Lp {P q:Program}{loose:List Str}{mean:ExcName→Option Value}{w:World}{K:PySem.W.Frag}{mg mb:Str→Option Value}{k:Nat}{fa a:Addr}{fd:FuncData}{x:Str}{s₁:Shared}{vs:List Value}{ns:List Int}
 (T:Top q loose mean mg mb s₁.heap) (hq:∀y:Str,(recsOf P).any (fun d=>d.name==y)=true→(recsOf q).any (fun d=>d.name==y)=true) (hnt:PySem.W.noTabs K=true) (KX:K.In s₁.heap) (hg:s₁.gens=#[])
 (ha:s₁.heap.get? a=some { cls:=.type "list",data:=.seq vs.toArray }) (hi:IntsAre vs ns) (hl:ns.length≤63) (hr:Be k callerA)
 (F:∀base:Heap,K.In base→base.Ns mainGlobals mg→∃mg',AJ P w K mg base CX0 k fa fd [x] (An K mg' ID)) (hbind:∀(s:Shared)(u:Value),BindsTo s fd ⟨[u],[]⟩ [(x,u)]) :
 codeAny (model P w) callerA (.call (.ref fa) ⟨[.ref a],[]⟩) (fun r s'=>r=.ok (.ret (.bool true))∧OldK s₁.heap s'.heap∧s'.os=s₁.os∧AllBare s'.gens) s₁:=by
 have rv:=Dq hi
 have lenV:=hi.length
 have sz:(63:Nat)≤sizeLine:=∅
 let IsT:Addr→Prop:=fun b=>∃y c,PySem.W.tabIn K y=some (c,b)∧(recsOf P).any (fun d=>d.name==y)=true
 have tabs:∀{y:Str}{c b:Addr},PySem.W.tabIn K y=some (c,b)→(recsOf P).any (fun d=>d.name==y)=true→PySem.W.CodeHd s₁.heap c b∧s₁.heap.get? b=some (PySem.W.tabObj #[]):=fun {y c b} h1 h2=>by
  have h3:=hq y h2
  cases e:(recsOf q).find? (fun d=>d.name==y) with
  |some d=>exact PySem.W.tab_of T KX e h1
  |none =>
   obtain⟨d,hd,hn⟩:=List.any_eq_true.mp h3
   exact absurd hn (List.find?_eq_none.mp e d hd)
 have tabG:∀{b:Addr},IsT b→s₁.heap.get? b=some (PySem.W.tabObj #[]):=fun⟨_,_,h1,h2⟩=>(tabs h1 h2).2
 let H:Hp:=fun b=>if b=a∧K.lookup a=none then some (.frz { cls:=.type "list",data:=.seq vs.toArray } (.lst (ns.map V.int))) else if IsT b then some (.tbl #[]) else none
 have Ha:K.lookup a=none→H a=some (.frz { cls:=.type "list",data:=.seq vs.toArray } (.lst (ns.map V.int))):=fun h=>if_pos ⟨rfl,h⟩
 have neT:∀{b:Addr},IsT b→b≠a:=fun t z=>by
  have:=tabG t
  rw[z,ha] at this
  cases this
 have Ht:∀{b:Addr},IsT b→H b=some (.tbl #[]):=fun {b} t=>(if_neg (fun z=>neT t z.1)).trans (if_pos t)
 have Hn:∀{b:Addr},¬(b=a∧K.lookup a=none)→¬IsT b→H b=none:=fun {b} h1 h2=>(if_neg h1).trans (if_neg h2)
 have three:∀b,H b=none∨(b=a∧K.lookup a=none)∨IsT b:=fun b=>by
  by_cases h1:b=a∧K.lookup a=none
  ·exact .inr (.inl h1)
  ·by_cases h2:IsT b
   ·exact .inr (.inr h2)
   ·exact .inl (Hn h1 h2)
 have free_of:∀{b:Addr}{o:Obj},s₁.heap.get? b=some o→(∀xs n,o.data≠.seq xs n)→o≠PySem.W.tabObj #[]→H b=none:=fun {b o} e h1 h2=>by
  refine Hn (fun z=>?_) (fun z=>?_)
  ·rw[z.1,ha] at e
   cases e
   exact h1 _ _ rfl
  ·have:=tabG z
   rw[e] at this
   exact h2 (qAn this)
 have hok:HOk P w H s₁.heap:=fun b u e=>by
  rcases three b with z|z|z
  ·rw[z] at e;cases e
  ·obtain⟨rfl,z⟩:=z
   rw[Ha z] at e
   cases e
   exact⟨ha,by rw[qAf];exact qAE hl sz,vs,_,rv,ha⟩
  ·rw[Ht z] at e
   cases e
   exact⟨#[],tabG z,trivial,fun pos cv z=>by cases z⟩
 have base_of:∀{b:Addr}{o:Obj},s₁.heap.get? b=some o→H b=none→(L8 s₁.heap H).get? b=some o:=fun e n=>MN e n
 have nsK:∀{b:Addr}{m:Str→Option Value},s₁.heap.Ns b m→(L8 s₁.heap H).Ns b m:=fun {b m} ⟨o,es,ep,e,d,r⟩=>⟨o,es,ep,base_of e (free_of e (fun xs n z=>by rw[d] at z;cases z) (fun z=>by rw[z] at d;cases d)),d,r⟩
 have hKb:K.In (L8 s₁.heap H):=fun b o e=>base_of (KX b o e) (Hn (fun z=>by rw[z.1,z.2] at e;cases e) (fun z=>by
  have h1:=tabG z
  rw[KX b o e] at h1
  have h2:=qAp.mp hnt (b,o) (PySem.W.mem_of_lookupK e)
  rw[qAn h1] at h2
  exact absurd (show false=true from h2) qAe))
 have hM:Mod K mg (L8 s₁.heap H):=⟨hKb,nsK T.g,⟨mb,nsK T.b,T.builtins⟩,let ⟨mc,h1,h2⟩:=T.nolimit;⟨mc,nsK h1,h2⟩⟩
 have hTB:TB P K mg (L8 s₁.heap H) H:=by
  refine⟨?_,fun y c b h1 h2=>⟨?_,#[],Ht ⟨y,c,h1,h2⟩⟩⟩
  ·obtain⟨bm,ob,b1,b2,b3,b4,b5,b6⟩:=T.bmain
   exact⟨bm,ob,b1,b2,base_of b3 (free_of b3 (fun xs n z=>by rw[b6] at z;cases z) (fun z=>by rw[z] at b4;cases b4)),b4,b5,b6⟩
  ·obtain⟨o,fs,file,tf,flags,tg,inF,text,tt,g1,g2,g3,g4⟩:=(tabs h1 h2).1
   exact⟨o,fs,file,tf,flags,tg,inF,text,tt,base_of g1 (free_of g1 (fun xs n z=>by rw[g3] at z;cases z) (fun z=>by rw[z] at g2;cases g2)),g2,g3,g4⟩
 have e0:JA P w K mg (L8 s₁.heap H) callerA [] s₁ H:=⟨rfl,hM,fun b o e=>OJ e,Nat.le_of_eq (KS _ _),trivial,fun b hb=>absurd (show b∈([]:List Addr) from hb) (by simp),hok,.of_eq hg,hTB⟩
 have hS:SqL K H a (ns.map V.int):=by
  cases hk:K.lookup a with
  |some o =>
   have e:=KX a o hk
   rw[ha] at e
   cases e
   exact .inr ⟨_,vs.toArray,_,hk,rfl,rfl,rfl,by rw[qAk,lenV];exact qAE hl sz,by simpa using rv⟩
  |none=>exact .inl (.inr ⟨_,Ha hk⟩)
 obtain⟨mg',FF⟩:=F _ hKb (nsK T.g)
 refine codeAny_mono (FF.run callerA [] s₁ H ⟨[.ref a],[]⟩ [.ref a] [.ref a] (fun v _=>v=.bl true) (fun _ _ _=>False) hr e0 (hbind s₁ (.ref a)) (.cons rfl .nil) ⟨H,[.r (ns.map D.int)],fun s=>s=.d (.bl true),NoU,AU.refl H,⟨rfl,fun i v s h1 h2=>?_⟩,⟨ns,rfl,hl,rfl⟩,fun s v q _ i _ e=>?_,fun _ _ _ _ _ z=>z.elim⟩) fun r s' h=>?_
 ·cases i with
  |zero =>
   cases h1
   cases h2
   exact⟨⟨a,_,rfl,hS,DH ns⟩,rfl⟩
  |succ i=>cases h1
 ·subst e
  exact Is.bl_inv i
 cases r with
 |error e=>exact(show False from h).elim
 |ok fl =>
  cases fl with
  |next=>exact False.elim h
  |brk=>exact False.elim h
  |cont=>exact False.elim h
  |ret u =>
   obtain⟨v,H',os,bare,un,hok',r',g⟩:=h
   have g':v=.bl true:=g
   subst g'
   obtain rfl:u=Value.bool true:=r'
   refine⟨rfl,⟨fun b o e=>?_,fun b o e=>un.there b o e (by simp)⟩,os,bare⟩
   rcases three b with z|z|z
   ·exact .inl (un.keep b o e z (by intro z;exact absurd (show b∈([]:List Addr) from z) (by simp)) (by simp))
   ·obtain⟨rfl,z⟩:=z
    obtain⟨e2,_⟩:=hok' b _ (un.frzs b _ _ (Ha z))
    rw[ha] at e
    cases e
    exact .inl e2
   ·have e1:=tabG z
    obtain⟨y,c,h1,h2⟩:=id z
    rw[e] at e1
    cases e1
    obtain⟨more,e3⟩:=un.tbls b _ (Ht z)
    obtain⟨tab,e4,_⟩:=(show Ia H' s'.heap b from hok' b _ e3)
    exact .inr (.inl ⟨((tabs h1 h2).1.tab (tabs h1 h2).2).isCodeTable,rfl,#[],tab,rfl,by rw[e4];simp⟩)
theorem walk3 {l:PySem.W.OpenLaw}{k:Nat}{q:Program}{loose:List Str}{XP:(Str→Option Value)→Heap→Prop}{YP:World→Heap→Prop}{d:DefRec}{K:Params→PySem.W.Frag}{x:Str} (hn:l.most=some 63) (hdf:d.params.defaults=[]) (hr:Be k callerA)
 (hq:∀y:Str,(recsOf l.prog).any (fun d=>d.name==y)=true→(recsOf q).any (fun d=>d.name==y)=true)
 (hY:∀(w:World)(h:Heap),YP w h→(K w.params).In h) (hnt:∀w:World,PySem.W.noTabs (K w.params)=true)
 (F:∀(w:World)(mg:Str→Option Value)(fa:Addr)(h:Heap),(K w.params).In h→h.Ns mainGlobals mg→mg d.name=some (.ref fa) →
  ∃fd:FuncData,(∀(s:Shared)(u:Value),BindsTo s fd ⟨[u],[]⟩ [(x,u)])∧∀base:Heap,(K w.params).In base→base.Ns mainGlobals mg→∃mg',AJ l.prog w (K w.params) mg base CX0 k fa fd [x] (An (K w.params) mg' ID)) :
 PySem.W.WalkO q loose XP YP l.row.toRowW d [] (fun f vs=>PySem.call f vs):=by
 refine Att.attach_call hn hdf fun w s₀ s₁ mg mb fa o pm cd doc a vs ns G Y ho hd hcd hmg hobj hints hlen hg=>?_
 have KX:=hY w _ Y
 obtain⟨fd,hb,hF⟩:=F w mg fa _ KX G.T.g hmg
 exact Lp G.T hq (hnt w) KX hg hobj hints hlen hr hF hb
end L3
namespace L3
open PySem L2
def S.wk:S→S
 |.d (.lst xs)=>.r xs
 |s=>s
def S.nl:S→Bool
 |.d (.lst _)=>false
 |_=>true
theorem Sr:∀s:S,s.wk.own=s.own
 |.d (.lst _)=>rfl
 |.d .non|.d (.bl _)|.d (.int _)|.d (.str _)|.d (.ty _)|.d (.ref _)|.d (.obj _ _ _)|.d (.dic _)|.d (.tup _)|.l _|.r _=>rfl
theorem RT:∀s:S,s.wk.nl=true
 |.d (.lst _)=>rfl
 |.d .non|.d (.bl _)|.d (.int _)|.d (.str _)|.d (.ty _)|.d (.ref _)|.d (.obj _ _ _)|.d (.dic _)|.d (.tup _)|.l _|.r _=>rfl
theorem YH {y:S}{l:List D} (h:y=.r l∨y=.d (.lst l)) (n:y.nl=true):y=.r l:=by
 rcases h with rfl|rfl
 ·rfl
 ·cases n
theorem UL {K:PySem.W.Frag}{p:HZ}{v:V} (hz:AU p.z p.h):∀s:S,IsS K p v s→IsS K p v s.wk
 |.d (.lst _),h=>by
  have h:Is K p.z v (.lst _):=h
  cases h with
  |lst e hl r=>exact⟨_,_,rfl,.inl (.inl (hz _ _ e)),hl,r⟩
 |.d .non,h|.d (.bl _),h|.d (.int _),h|.d (.str _),h|.d (.ty _),h|.d (.ref _),h|.d (.obj _ _ _),h|.d (.dic _),h|.d (.tup _),h|.l _,h|.r _,h=>h
def NL (sp:Sp3):Sp3:=fun ss R U=>sp ss R U∧∀s∈ss,s.nl=true
theorem KU {K:PySem.W.Frag}{mg:Str→Option Value}{sp:Sp3} (hs:∀ss R U,sp ss R U→sp (ss.map S.wk) R U){vs:List V}{H:Hp}{Q:VK}{E:XK} (h:An K mg sp vs H Q E):An K mg (NL sp) vs H Q E:=by
 obtain⟨z,ss,R,U,hz,⟨hl,ha⟩,h3,q⟩:=h
 refine⟨z,ss.map S.wk,R,U,hz,⟨by rw[qAf];exact hl,fun i v s hv h=>?_⟩,⟨hs _ _ _ h3,fun s h=>?_⟩,q⟩
 ·rw[qAl] at h
  obtain⟨t,e,rfl⟩:=qBw.mp h
  have:=ha i v t hv e
  exact⟨UL hz _ this.1,(Sr t).trans this.2⟩
 ·obtain⟨t,_,rfl⟩:=qBa.mp h
  exact RT t
section
variable {P:Program}{w:World}{K:PySem.W.Frag}{mg:Str→Option Value}{base:Heap}{f:Addr}{fd:FuncData}{ps:List Str}{k:Nat}
theorem fnW {CX:CXT}{sp:Sp3} (hs:∀ss R U,sp ss R U→sp (ss.map S.wk) R U) (F:AJ P w K mg base CX k f fd ps (An K mg (NL sp))):AJ P w K mg base CX k f fd ps (An K mg sp):=F.imp fun _ _ _ _=>KU hs
theorem ZL {kl:Nat}{sp:SpL} (hs:∀a d p ss R U,sp a d p ss R U→sp a d p (ss.map S.wk) R U) (F:Kz P w K mg base k kl f fd ps (fun a d p=>NL (sp a d p))):Kz P w K mg base k kl f fd ps sp :=
 ⟨fun a d p ss R U h=>by have:=F.len a d p _ R U ⟨hs _ _ _ _ _ _ h,fun s h=>by obtain⟨t,_,rfl⟩:=qBa.mp h;exact RT t⟩;rw[qAf] at this;exact this,
  fun A outer s H args us vs Q E a d p hr e0 hb rv hL hh=>F.run A outer s H args us vs Q E a d p hr e0 hb rv hL (KU (hs a d p) hh)⟩
end
end L3
namespace L3
open PySem PySem.Spec PyProof.Rows L2
section
variable {X:Cx}{e a b:Expr}{es:List Expr}{te ta tb:TE3}{tr:TA3}{pos:Pos}
theorem vN (i:Nat){x:Str} (hN:X.N[i]? = some x:=by rfl) (hv:Vis X.env.scope x:=by first|exact Or.inl rfl|exact Or.inr (Or.inl rfl)|exact Or.inr (Or.inr rfl)) (hd:(x==("__debug__":Str))=false:=by decide) (hcd:(x==("__classdict__":Str))=false:=by decide):PE3 X (.Name x pos) (TK i):=Vz (pv i hN hv hd hcd)
theorem vK (i:Nat){x:Str}{n:Int}{j:Nat}{p q:Pos} (hN:X.N[i]? = some x:=by rfl) (hv:Vis X.env.scope x:=by first|exact Or.inl rfl|exact Or.inr (Or.inl rfl)|exact Or.inr (Or.inr rfl)) (hd:(x==("__debug__":Str))=false:=by decide) (hcd:(x==("__classdict__":Str))=false:=by decide):PE3 X (.Subscript (.Name x p) (.Constant (.int n) j q) pos) (vIx (TK i) (vC (.int n))):=Ma (vN i hN hv hd hcd) Ag
theorem a1 (ha:PE3 X e te)(hs:starEach [e] X.env=(false,eval e X.env)::starEach [] X.env:=by exact AI rfl):PA3 X [e] (Kl te Tp):=Ap ha Py hs
theorem a2 (ha:PE3 X a ta)(hb:PE3 X b tb)(h1:starEach [a,b] X.env=(false,eval a X.env)::starEach [b] X.env:=by exact AI rfl)(h2:starEach [b] X.env=(false,eval b X.env)::starEach [] X.env:=by exact AI rfl):PA3 X [a,b] (Kl ta (Kl tb Tp)):=Ap ha (Ap hb Py h2) h1
theorem BJ {k k':Nat}{x:Str}{ps:List Str}{sp:Sp3}{p:Pos}{U:Str→Prop} (xo:O6 X U) (hr:Be k' X.A) (c:Cal X.prog X.w X.K X.mg X.base (CXU X.prog X.w) k x ps sp) (ha:PA3 X (e::es) tr) (hk:k≤k':=by first|decide|omega) (hg:Gl X x:=by exact rfl)
 (hdb:(x==("__debug__":Str))=false:=by decide) (he:starEach (e::es) X.env=(false,eval e X.env)::starEach es X.env:=by exact AI rfl) (hpl:(backTo pos (starEach es X.env)).any (·.1)=false:=by exact A1 rfl) (hl:X.lent=none∨∀y,¬U y:=by first|exact .inl rfl|exact .inr (fun _ z=>z)) :
 PE3 X (.Call (.Name x p) (e::es) [] pos) (KJ U sp tr):=Lo xo c (hr.mono hk) hg ha hdb he hpl hl
theorem Gk {k k':Nat}{x:Str}{ps:List Str}{sp:Sp3}{p:Pos} (hr:Be k' X.A) (c:Cal X.prog X.w X.K X.mg X.base (CXU X.prog X.w) k x ps sp) (ha:PA3 X (e::es) tr) (hk:k≤k':=by first|decide|omega) (hg:Gl X x:=by exact rfl)
 (hdb:(x==("__debug__":Str))=false:=by decide) (he:starEach (e::es) X.env=(false,eval e X.env)::starEach es X.env:=by exact AI rfl) (hpl:(backTo pos (starEach es X.env)).any (·.1)=false:=by exact A1 rfl) :
 PE3 X (.Call (.Name x p) (e::es) [] pos) (KJ NoU sp tr):=Lo O2 c (hr.mono hk) hg ha hdb he hpl (.inr fun _ z=>z)
theorem Lq {p:Pos} (hm:X.mg "len"=none) (ha:PE3 X e te) (hg:Gl X "len":=by exact rfl) (he:starEach [e] X.env=(false,eval e X.env)::starEach [] X.env:=by exact AI rfl) (hpl:(backTo pos (starEach [] X.env)).any (·.1)=false:=by exact A1 rfl) :
 PE3 X (.Call (.Name "len" p) [e] [] pos) (vCB Va (Kl te Tp)):=CP Ut hg hm PySem.boot_len (Ap ha Py he) ∅ ∅ he hpl
theorem A2 (i:Nat){x:Str}{pos':Pos}{ps:List Str}{sc:Scope} (O:Av X.N ps sc) (he:PE3 X e te) (hi:X.N[i]? = some x:=by rfl) (hx:Loc X.env.scope x:=by first|exact Or.inl rfl|exact Or.inr rfl) (hs:swapsWith e (some (.Name x pos')) pos.line X.env=pure false:=by rfl) (hf:X.fn x=true∨X.env.scope.names.lookup x=some .local:=by first|exact .inl rfl|exact .inr rfl|assumption) (hp:Bi X i:=by first|exact AZ rfl|exact A0 rfl ∅|assumption) :
 PS3 X (.Assign [.Name x pos'] e pos) (Td i te):=Wa O.nd hi hx he hs hf hp
theorem Bt (he:PE3 X e te):C4 X [.Return (some e) pos] (XA te):=A6 (Ul he)
theorem CY {op:CmpOp}{r3:R3} (ho:Dx X (compareOp op) r3) (ha:PE3 X a ta) (hb:PE3 X b tb) (hm:behindInMarks op b=false:=by exact Em _):PT3 X (.Compare a [op] [b] pos) (Lw (vOp r3 ta tb)):=DM ho ha hb hm
end
theorem scN {N P:List Str}{sc:Scope} (h1:(sc.kind=.function∧sc.isCoroutine=false∧sc.isGenerator=false):=by exact⟨rfl,rfl,rfl⟩) (h2:N.take P.length=P:=by rfl) (h3:N.Nodup∧(∀x∈P,sc.names.lookup x=some .local∨sc.names.lookup x=some .cell)∧∀y∈sc.names,y.2≠.free:=by decide +kernel):Av N P sc:=⟨h1.1,h1.2.1,h1.2.2,h3.1,h2,h3.2.1,h3.2.2⟩
def Bnd (st:Stmt)(n:Str)(ps:List Str):Prop:=∀(kV doc pm:Value)(an:Option Addr)(cdv ct:Value)(us:List Value),us.length=ps.length→bindArgs (PySem.W.fnOf n n (Ci st) (A4 st) (Ae st) .none kV doc pm an cdv ct) ⟨us,[]⟩=pure (ps.zip us)
section
variable {P:Program}{w:World}{K:PySem.W.Frag}{mg:Str→Option Value}{base h:Heap}
theorem mkC (X:K.In h)(G:h.Ns mainGlobals mg){n:Str}{st:Stmt} (r:Rw K n st){k:Nat}{ps:List Str}{sp:Sp3} (ok:∀{f:Addr}{fd:FuncData},Fun K n n st f fd→rA K n f→AJ P w K mg base (CXU P w) k f fd ps (An K mg sp))
 (hb:Bnd st n ps:=by(intro _ _ _ _ _ _ us hl;first|(obtain⟨x0,rfl⟩:=HS hl;rfl)|(obtain⟨x0,x1,rfl⟩:=MC hl;rfl)|(obtain⟨x0,x1,x2,rfl⟩:=Rp hl;rfl)|(obtain⟨x0,x1,x2,x3,rfl⟩:=OF hl;rfl))):Cal P w K mg base (CXU P w) k n ps sp:=by
 obtain⟨a,l,c,k⟩:=r
 have F:=Ja (st:=st) l c k
 exact⟨⟨_,_,ok F a,qAH X G a,k,F.binds hb⟩⟩
theorem mkL (X:K.In h)(G:h.Ns mainGlobals mg){n:Str}{st:Stmt} (r:Rw K n st){k kl:Nat}{ps:List Str}{sp:SpL} (ok:∀{f:Addr}{fd:FuncData},Fun K n n st f fd→rA K n f→Kz P w K mg base k kl f fd ps sp)
 (hb:Bnd st n ps:=by(intro _ _ _ _ _ _ us hl;first|(obtain⟨x0,rfl⟩:=HS hl;rfl)|(obtain⟨x0,x1,rfl⟩:=MC hl;rfl)|(obtain⟨x0,x1,x2,rfl⟩:=Rp hl;rfl)|(obtain⟨x0,x1,x2,x3,rfl⟩:=OF hl;rfl))):Wl P w K mg base k kl n ps sp:=by
 obtain⟨a,l,c,k⟩:=r
 have F:=Ja (st:=st) l c k
 exact⟨⟨_,_,ok F a,qAH X G a,k,F.binds hb⟩⟩
end
end L3
namespace L3
open PySem PySem.Spec PyProof.Rows L2
section
variable {X:Cx}{e a b:Expr}{te ta tb:TE3}{pos:Pos}
def WH (i:Nat)(te:TE3):TS3:=fun D3 τ=>match τ[i]? with
 |some (some (S.d (D.int n)))=>te τ fun s=>dd s fun d=>match d with
  |.int j=>D3.nx (τ.set i (some (.d (.int (n+j)))))
  |_=>False
 |_=>False
theorem SJ {i:Nat}{x:Str}{px:Pos} (hN:X.N.Nodup) (hi:X.N[i]? = some x) (hx:Loc X.env.scope x) (he:PE3 X e te) (hf:X.fn x=true∨X.env.scope.names.lookup x=some .local:=by first|exact .inl rfl|exact .inr rfl|assumption) (hp:Bi X i:=by first|exact AZ rfl|exact A0 rfl ∅|assumption) :
 PS3 X (.AugAssign (.Name x px) .Add e pos) (WH i te):=⟨AF (Om hN hi hx he.out Rx hf) fun D2 σ H hh=>by
 obtain⟨B,z,τ,D3,r,ht,c⟩:=hh
 unfold WH at ht
 split at ht
 ·rename_i n hs
  obtain⟨v,h1,h2⟩:=r.val i _ hs
  have ev:v=.int n:=Is.int_inv h2
  subst ev
  refine⟨.int n,h1,B,_,τ,_,r,ht,fun s v q1 e1 i1 f1 h3=>?_⟩
  obtain⟨d,rfl,h4⟩:=Cm h3
  split at h4
  ·rename_i j
   have ev:v=.int j:=Is.int_inv i1
   subst ev
   refine⟨n,j,rfl,rfl,?_⟩
   exact c.nx _ _ _ ((r.mono e1).setd (.int (n+j)) hp) h4
  ·exact h4.elim
 ·exact ht.elim⟩
def X2 (r3:R3)(ta tb:TE3):TE3:=fun τ R=>ta τ fun x=>tb τ fun y=>dd x.arg fun dx=>dd y.arg fun dy=>r3 dx dy fun d=>R (.d d)
theorem Yi {op:Operator}{r3:R3} (ho:Dx X (binaryOp op) r3) (ha:PE3 X a ta) (hb:PE3 X b tb):PE3 X (.BinOp a op b pos) (X2 r3 ta tb):=⟨Al (Pa ho ha.out hb.out) fun σ H Q hh=>by
 obtain⟨B,z,τ,R,r,ht,q⟩:=hh
 refine⟨B,z,τ,_,r,ht,fun s v q1 e1 i1 f1 h1=>?_⟩
 obtain⟨z1,e1',i1'⟩:=Dc e1 i1 f1
 refine⟨B,z1,τ,_,r.mono e1',h1,fun s2 v2 q2 e2 i2 f2 h2=>?_⟩
 obtain⟨z2,e2',i2'⟩:=Dc e2 i2 f2
 obtain⟨dx,ex,h2⟩:=Cm h2
 obtain⟨dy,ey,h2⟩:=Cm h2
 rw[ex] at i1'
 rw[ey] at i2'
 refine⟨z2,dx,dy,_,e2'.sub,(show Is X.K z1 v dx from i1').mono e2'.zz,i2',h2,fun d w q3 e3 i3 h3=>?_⟩
 exact q (.d d) w q3 (e1'.trans (e2'.trans e3)) i3 Bp h3⟩
end
end L3
namespace L3
open PySem PySem.Spec PyProof.Rows L2
def Ite (K:PySem.W.Frag)(a:Addr):It :=
 ⟨fun i H=>∃xs x,SqL K H a xs∧xs[i]? = some x,fun i H x H'=>∃p y,H p=none∧x=.ref p∧(∀xs,SqL K H a xs→xs[i]? = some y)∧H'=upd H p (.tup [.int i,y]),fun i H=>∃xs,SqL K H a xs∧xs.length≤i⟩
theorem LI {P:Program}{w:World}{K:PySem.W.Frag}{elts:List Expr}{x1:Nat}{tpos:Pos} (a e it:Addr) (hne:e≠it):MM P w K (.Tuple elts x1 tpos) (Ite K a) [e,it] e (fun i h=>(∃old,IsEnum h e it ((i:Nat):Int) old)∧h.IsListIter it a i) where
 mem:=by simp
 obj:=fun i h st b hb=>by
  obtain⟨⟨old,he⟩,hi⟩:=st
  rcases qAq.mp hb with rfl|hb
  ·exact⟨_,he,fun v z=>by cases z⟩
  ·have:b=it:=by simpa using hb
   subst this
   obtain⟨o,e1,c,d⟩:=hi
   exact⟨o,e1,fun v z=>by rw[d] at z;cases z⟩
 keep:=fun i h h' st k=>⟨let ⟨old,he⟩:=st.1;⟨old,k e (by simp) _ he⟩,st.2.at fun o e1=>k it (by simp) o e1⟩
 item:=by
  intro X hP hw hK hc i pins s σ H E I hf st hg
  subst hP hw hK
  obtain⟨xs,x,hq,hx⟩:=hg
  obtain⟨its,rv,p,hz⟩:=I.list hq
  obtain⟨u,hu,ru⟩:=rv.get hx
  obtain⟨⟨old,he⟩,hi⟩:=st
  obtain⟨f0,f1,f2,f3,f4,f5⟩:=hf e (by simp)
  obtain⟨g0,g1,g2,g3,g4,g5⟩:=hf it (by simp)
  refine wpAny_pyNext_enum_item he hi p.isList (x:=u) (by simpa using hu) hne fun h1 heo hit1 ht1 hz1 hk1=>⟨_,rfl,wpAny_letOwnedTupleGo_enum (s:={ s with heap:=h1,toks:=s.toks+1 }) heo fun h2 he2 hs2=>?_⟩
  have hs2':Heap.SameBut e h1 h2:=hs2
  have el:e<s.heap.objs.size:=qAh he
  have sz:s.heap.objs.size≠e:=qBq el
  have hn:H s.heap.objs.size=none:=I.hok.fresh (qAg _)
  have old2:∀b o,b≠e→b≠it→s.heap.get? b=some o→h2.get? b=some o:=fun b o n1 n2 z=>(hs2'.2 b n1).trans (hk1 b o n1 n2 z)
  have tup2:h2.get? s.heap.objs.size=some { cls:=.type "tuple",data:=.seq #[.int i s.toks,u] }:=(hs2'.2 _ sz).trans ht1
  have trk:∀{b:Addr}{o:HO},H b=some o→b≠e∧b≠it:=fun {b o} z=>⟨(fun y=>by rw[y,f0] at z;cases z),(fun y=>by rw[y,g0] at z;cases z)⟩
  have hok2:HOk X.prog X.w (upd H s.heap.objs.size (.tup [.int i,x])) h2:=fun b o z=>by
   by_cases hb:b=s.heap.objs.size
   ·subst hb
    rw[Ac] at z
    cases z
    exact⟨by show 2≤sizeLine;decide,[.int i s.toks,u],.cons ⟨_,rfl⟩ (.cons ru .nil),⟨_,tup2,rfl,_,rfl⟩⟩
   ·rw[Af hb] at z
    refine(I.hok b o z).stay (hf:=fun c w1 w2 y=>by rw[Af (Am y hn)];exact y) (fun c v hc' y=>?_) (fun c y=>by rw[Af (Am y hn)];exact y) fun c ys y=>by rw[Af (Am y hn)];exact y
    have t:c≠e∧c≠it:=by
     rcases hc' with rfl|hc'
     ·exact trk z
     ·exact trk hc'
    exact old2 c v t.1 t.2 y
  have I2:Inv X pins σ (upd H s.heap.objs.size (.tup [.int i,x])) { s with heap:=h2,toks:=s.toks+1 }:=by
   refine I.step (g':=s.gens) (d':=s.drawn) (ch:=[e,it]) (fun b hb=>?_) (fun b o _ _ hb z _=>old2 b o (fun y=>hb (by simp[y])) (fun y=>hb (by simp[y])) z) (fun b o _ _ hb z _=>⟨o.slots,old2 b o (fun y=>hb (by simp[y])) (fun y=>hb (by simp[y])) z⟩)
    (fun b o _ z n=>by rw[Af (qAo (qAh z))];exact n) (fun b o hb z=>⟨o,old2 b o (fun y=>hb (by simp[y])) (fun y=>hb (by simp[y])) z⟩)
    (fun b ys y=>by rw[Af (Am y hn)];exact y) (fun b o ys y=>by rw[Af (Am y hn)];exact y) (fun b ps y=>⟨#[],by rw[Af (Am y hn),y];simp⟩) (fun m hm=>?_) hok2 I.bare
   ·rcases qAq.mp hb with rfl|hb
    ·exact⟨f3,f1,f4,f5⟩
    ·have:b=it:=by simpa using hb
     subst this
     exact⟨g3,g1,g4,g5⟩
   ·obtain⟨o,es,ep,ho,r⟩:=hm
    exact⟨o,es,ep,old2 _ o (Ne.symm f1) (Ne.symm g1) ho,r⟩
  refine⟨.ref s.heap.objs.size,_,I2,rfl,⟨_,x,hn,rfl,fun ys hy=>by rw[I.list_inj hy hq];exact hx,rfl⟩,⟨⟨u,?_⟩,hit1.extBut hs2'.extBut (Ne.symm hne)⟩,fun b hb=>?_⟩
  ·have:((i+1:Nat):Int)=(i:Int)+1:=()
   rw[this]
   exact he2
  ·rcases qAq.mp hb with rfl|hb
   ·rw[Af (Ne.symm sz)];exact f0
   ·have:b=it:=by simpa using hb
    subst this
    obtain⟨o,e1,_⟩:=hi
    rw[Af (qAo (qAh e1))]
    exact g0
 done:=by
  intro X hP hw hK hc i pins s σ H E I hf st hg
  subst hP hw hK
  obtain⟨xs,hq,hx⟩:=hg
  obtain⟨its,rv,p,hz⟩:=I.list hq
  obtain⟨⟨old,he⟩,hi⟩:=st
  obtain⟨g0,g1,g2,g3,g4,g5⟩:=hf it (by simp)
  refine wpAny_pyNext_enum_end (I.ok.hd hc) he hi p.isList (by rw[qB4];rw[qAs,←rv.length];exact hx) fun h' hx'=>⟨rfl,?_⟩
  exact I.turned (t':=s.toks) (fun b o hb z=>hx' b o hb z) g0 g1 g3 g4 g5
 self:=fun A i s Q E st h=>by
  obtain⟨⟨old,he⟩,_⟩:=st
  exact wpAny_pyIter_enum he h
section
variable {X:Cx}{pos:Pos}
def Rh (K:PySem.W.Frag)(tl:TE):TI:=fun σ H R=>tl σ H fun x H1=>∃a,x=.ref a∧(∃xs,Rd H1 a (.lst xs))∧R (Ite K a) H1
theorem Um {elts:List Expr}{x1:Nat}{tpos p:Pos}{l:Expr}{tl:TE} (hg:Gl X "enumerate") (hm:X.mg "enumerate"=none) (hl:PE X l tl) (hs:starEach [l] X.env=[(false,eval l X.env)]:=by rfl):PI X (.Tuple elts x1 tpos) (.Call (.Name "enumerate" p) [l] [] pos) (Rh X.K tl):=by
 intro pins s σ H R I h
 refine Call_ (B6 I hg hm qCl (qAX ?_ hs rfl))
 rw[hs]
 refine Calls.spliced_cons (thn (hl pins s σ H _ I h) fun v s1 ⟨x,H1,I1,r1,q1⟩=>Calls.spliced_nil ?_)
 obtain⟨a,e,⟨xs,hq⟩,q⟩:=q1
 subst e
 cases r1
 obtain⟨_,its,n,rv,ho⟩:=hq.ok I1.hok
 refine call_enumerate_1 (items:=its.toArray) (n:=n) ho fun h' he hit hz old=>?_
 have I2:Inv X pins σ H1 { s1 with heap:=h' }:=I1.kept (t':=s1.toks) old
 refine wpAny_pyIter_enum (s:={ s1 with heap:=h' }) he ?_
 refine⟨s1.heap.objs.size+1,[s1.heap.objs.size+1,s1.heap.objs.size],_,_,H1,rfl,I2,LI a (s1.heap.objs.size+1) s1.heap.objs.size (qCv _),⟨⟨_,he⟩,hit⟩,fun b hb=>?_,q⟩
 rcases qAq.mp hb with rfl|hb
 ·exact I1.fpOk (qA4 _) (I1.hok.fresh (qA4 _))
 ·have:b=s1.heap.objs.size:=by simpa using hb
  subst this
  exact I1.fpOk (qAg _) (I1.hok.fresh (qAg _))
def NG (i1 i2:Nat)(xs:List D)(tb:TS3)(D3:Gr)(τ0:Tau):Prop:=∃I:Nat→Tau→Prop,I 0 τ0 ∧
 (∀n τ x,xs[n]? = some x→I n τ→tb { D3 with nx:=I (n+1),ct:=I (n+1),bk:=D3.nx } ((τ.set i1 (some (.d (.int n)))).set i2 (some (.d x))))∧∀τ,I xs.length τ→D3.nx τ
def QW (j i1 i2:Nat)(tb:TS3):TS3:=fun D3 τ=>match τ[j]? with
 |some (some (.l xs))=>NG i1 i2 xs tb D3 (τ.set j (some (.r xs)))
 |_=>False
theorem WI {j i1 i2:Nat}{x1 x2 y:Str}{p1 p2 pt py pn pc:Pos}{kt:Nat}{body:List Stmt}{tb:TS3}
 (h:PS X (.For (.Tuple [.Name x1 p1,.Name x2 p2] kt pt) (.Call (.Name "enumerate" pn) [.Name y py] [] pc) body [] pos) (Kg (Rh X.K (Gw j)) (UB X.K 2 (LQ (BL i1) (LQ (BL i2) VG))) (FS X tb))) (hp1:Bi X i1:=by first|exact AZ rfl|exact A0 rfl ∅|assumption) (hp2:Bi X i2:=by first|exact AZ rfl|exact A0 rfl ∅|assumption) :
 PS3 X (.For (.Tuple [.Name x1 p1,.Name x2 p2] kt pt) (.Call (.Name "enumerate" pn) [.Name y py] [] pc) body [] pos) (QW j i1 i2 tb):=⟨AF h fun D2 σ H hh=>by
 obtain⟨B,z,τ,D3,r,ht,c⟩:=hh
 unfold QW at ht
 split at ht
 ·rename_i xs hs
  obtain⟨v,h1,a,vs,rfl,h3,h4⟩:=r.val j _ hs
  have r':=r.freeze hs rfl
  obtain⟨I,i0,turn,out⟩:=ht
  have hno:∀(m:Nat)(ys:List D),(τ.set j (some (.r xs)))[m]? = some (some (S.l ys))→σ[m]?≠some (some (V.ref a)):=fun m ys hm hσ=>by
   rcases Ar hm with⟨rfl,z⟩|⟨hn,hm'⟩
   ·cases z
   ·have hl:j<τ.length:=(qAj.mp hs).1
    exact r'.sep m j ys (.r xs) a hn hm (by rw[qBh hl]) rfl hσ h1
  have hB:SqL X.K (Eu (τ.set j (some (.r xs))) σ H) a vs:=.inl (.inl (by rw[DC hno];exact h3))
  refine⟨.ref a,h1,a,rfl,⟨vs,.inl h3⟩,fun n m σ1 H1=>m=vs.length-n∧n≤vs.length∧∃z1 τ1,Rep X ⟨Eu (τ.set j (some (.r xs))) σ H,z⟩ τ1 σ1 ⟨H1,z1⟩∧I n τ1,⟨vs.length,by simp,qAw _,z,_,r'.inB,i0⟩,?_⟩
  rintro n m σ1 H1 ⟨rfl,hn,z1,τ1,r1,ih1⟩
  have q:=r1.ext.hh.seq hB
  by_cases hlt:n<vs.length
  ·refine .inr ⟨⟨vs,vs[n],q,by simp[hlt]⟩,fun σ' H'=>∃z' τ',Rep X ⟨Eu (τ.set j (some (.r xs))) σ H,z⟩ τ' σ' ⟨H',z'⟩∧I (n+1) τ',fun σ' H' p'=>⟨vs.length-(n+1),(),rfl,hlt,p'⟩,fun x H' y=>?_⟩
   obtain⟨p,w,hp,rfl,hy,rfl⟩:=y
   have hw:=hy vs q
   obtain⟨d,hd,id⟩:=Df h4 hw
   have e1:Ext ⟨H1,z1⟩ ⟨upd H1 p (.tup [.int n,w]),z1⟩:=Ext.own r1.ext.sub hp _
   have r2:=r1.mono e1
   refine⟨p,[.int n,w],rfl,.inl (.inl Ac),rfl,.int n,[w],rfl,w,[],rfl,rfl,?_⟩
   exact⟨_,_,_,_,(r2.setd (i:=i1) (.int (n:Int)) hp1).setd (i:=i2) (id.mono r1.ext.zz) hp2,turn n τ1 d hd ih1,c.inB r'.leB fun τ' σ' p' r' h'=>⟨p'.z,τ',r',h'⟩⟩
  ·have e:n=vs.length:=()
   subst e
   exact .inl ⟨⟨vs,q,qAg _⟩,c.nx _ _ _ (r1.outB r'.leB) (out τ1 (by rw[←h4.1];exact ih1))⟩
 ·exact ht.elim⟩
end
end L3
namespace L3
open PySem L2
section
variable {X:Cx}
theorem DV {ns:List Int}:∀{its:List Value},AA (ns.map V.int) its→PyProof.Rows.IntsAre its ns:=by
 induction ns with
 |nil=>intro its h;cases h;exact .nil
 |cons n ns ih =>
  intro its h
  cases h with
  |cons r t =>
   obtain⟨k,rfl⟩:=r
   exact .cons n k (ih t)
theorem Dq {vs:List Value}{ns:List Int} (h:PyProof.Rows.IntsAre vs ns):AA (ns.map V.int) vs:=by
 induction h with
 |nil=>exact .nil
 |cons n t _ ih=>exact .cons ⟨t,rfl⟩ ih
theorem FP {vs:List Value}{ns:List Int} (h:PyProof.Rows.IntsAre vs ns):vs.length=ns.length:=by
 induction h with
 |nil=>rfl
 |cons n t _ ih=>rw[qAd,qAd,ih]
theorem CU {pins:List (Addr×Obj)}{σ:St}{H:Hp}{s:Shared}{Q:VK}{its:List Value}{out:Array Value}{ns:List Int} (I:Inv X pins σ H s) (a1:PyProof.Rows.IntsAre out.toList ns) (hl:ns.length≤sizeLine)
 (q:∀l,H l=none→Q (.ref l) (upd H l (.lst (ns.map V.int)))):EP X pins σ Q (.ref (s.heap.objs.size+1)) { s with heap:=PyProof.Rows.sortedAll s.heap its out }:=by
 obtain⟨e,he⟩:=qCr s.heap its out
 refine⟨.ref (s.heap.objs.size+1),_,I.laid (t':=s.toks) (fun b o=>qCo) (qA4 _) (show Bj X.prog X.w _ _ _ (.lst (ns.map V.int)) from ⟨by rw[qAf];exact hl,out.toList,e,Dq a1,he⟩),rfl,q _ (I.hok.fresh (qA4 _))⟩
def Iu (X:Cx):List V→Hp→VK→Prop:=fun xs H Q=>∃p ns,xs=[.ref p]∧SqL X.K H p (ns.map V.int)∧ns.length<64∧∀ns':List Int,ns'.Perm ns→∀l,H l=none→Q (.ref l) (upd H l (.lst (ns'.map V.int)))
theorem HL:A7 X (.builtin "sorted") (Iu X):=by
 intro pins s σ H xs us Q I r h
 obtain⟨p,ns,rfl,hq,h64,q⟩:=h
 obtain⟨u,rfl,rx⟩:=Bd r
 cases rx
 obtain⟨its,r',pl,hz⟩:=I.list hq
 have hI:=DV r'
 refine qCw pl.isList hI (by rw[FP hI];exact h64) fun out ns' a1 a2 a3=>?_
 exact CU I a1 (by rw[a2.length_eq];rw[qAf] at hz;exact hz) (q ns' a2)
theorem Mb {p pos kpos:Pos}{e:Expr}{t:TA}{b:Bool}{kj:Nat}{kp:Pos} (hg:Gl X "sorted") (hm:X.mg "sorted"=none) (ha:PA X [e] t)
 (he:starEach [e] X.env=(false,eval e X.env)::starEach [] X.env:=by rfl) :
 PE X (.Call (.Name "sorted" p) [e] [⟨some "reverse",.Constant (.bool b) kj kp,kpos⟩] pos) (tCB (Iu X) t):=by
 intro pins s σ H Q I h
 refine wpAny_Call_Name_kw (B6 I hg hm qA7 ?_ ∅ ∅)
 refine qCx (thn (ha pos pins s σ H _ I h) fun us s1 ⟨vs,H1,I1,r1,q1⟩=>?_) (by rw[he];rfl) (by rw[he];rfl)
 refine thn ((Kd Jy NO:PK X [⟨some "reverse",.Constant (.bool b) kj kp,kpos⟩] _) pos pins s1 σ H1 (fun ws H2=>ws=[V.bl b]∧Iu X vs H2 Q) I1 ⟨rfl,q1⟩) fun ws s2 ⟨zs,H2,I2,rz,ez,q1⟩=>?_
 subst ez
 obtain⟨w,rfl,rw⟩:=Bd rz
 cases rw
 obtain⟨pp,ns,rfl,hq,h64,q⟩:=q1
 obtain⟨u,rfl,rx⟩:=Bd r1
 cases rx
 obtain⟨its,r',pl,hz⟩:=I2.list hq
 have hI:=DV r'
 refine qCg pl.isList hI (by rw[FP hI];exact h64) fun out ns' a1 a2 a3=>?_
 exact CU I2 a1 (by rw[a2.length_eq];rw[qAf] at hz;exact hz) (q ns' a2)
theorem DX {K:PySem.W.Frag}{H:Hp}{vs:List V}{ns:List Int} (h:Iss K H vs (ns.map D.int)):vs=ns.map V.int:=by
 refine qA1 fun i=>?_
 have hl:=h.1
 rw[qAf] at hl
 rw[qAl]
 by_cases c:i<vs.length
 ·have e:=qAc c
  have e2:ns[i]? = some ns[i]:=qAc ()
  have:=h.2 i vs[i] (.int ns[i]) e (by rw[qAl,e2];rfl)
  rw[e,e2,Is.int_inv this]
  rfl
 ·rw[qAs.mpr (),qAs.mpr ()]
  rfl
def J6 (te:TE3):TE3:=fun τ R=>te τ fun s=>match KY s with
 |some xs=>∃ns:List Int,xs=ns.map D.int∧ns.length<64∧∀ns':List Int,ns'.Perm ns→R (.l (ns'.map D.int))
 |none=>False
theorem Tu {e:Expr}{te:TE3}{p pos:Pos} (he:PE3 X e te) (hg:Gl X "sorted") (hm:X.mg "sorted"=none) (hs:starEach [e] X.env=(false,eval e X.env)::starEach [] X.env:=by exact AI rfl):PE3 X (.Call (.Name "sorted" p) [e] [] pos) (J6 te) :=
 ⟨Al (NM (Cj HL hg hm qA7 (Az he.out A5 hs) (he:=hs))) fun σ H Q hh=>by
  obtain⟨B,z,τ,R,r,ht,q⟩:=hh
  exact⟨B,z,τ,_,r,ht,fun s v q1 e1 i1 f1 h1=>by
   split at h1
   ·rename_i xs hx
    obtain⟨ns,rfl,h64,h1⟩:=h1
    obtain⟨a,vs,rfl,g2,g1⟩:=Ck i1 e1.sub hx
    have ev:=DX g2
    subst ev
    refine⟨a,ns,rfl,g1,h64,fun ns' pm d hd hk=>?_⟩
    exact q (.l (ns'.map D.int)) _ ⟨_,q1.z⟩ (e1.trans (Ext.own e1.sub hd _)) ⟨d,ns'.map V.int,rfl,Ac,DH ns'⟩ (fun ys a _ h2=>by
     cases h2
     exact⟨e1.hh.free hd,hk d _ Ac,e1.sub.free hd⟩) (h1 ns' pm)
   ·exact h1.elim⟩⟩
theorem RZ {e:Expr}{te:TE3}{p pos kpos kp:Pos}{b:Bool}{kj:Nat} (he:PE3 X e te) (hg:Gl X "sorted") (hm:X.mg "sorted"=none) (hs:starEach [e] X.env=(false,eval e X.env)::starEach [] X.env:=by exact AI rfl):PE3 X (.Call (.Name "sorted" p) [e] [⟨some "reverse",.Constant (.bool b) kj kp,kpos⟩] pos) (J6 te) :=
 ⟨Al (NM (Mb hg hm (Az he.out A5 hs) hs)) fun σ H Q hh=>by
  obtain⟨B,z,τ,R,r,ht,q⟩:=hh
  exact⟨B,z,τ,_,r,ht,fun s v q1 e1 i1 f1 h1=>by
   split at h1
   ·rename_i xs hx
    obtain⟨ns,rfl,h64,h1⟩:=h1
    obtain⟨a,vs,rfl,g2,g1⟩:=Ck i1 e1.sub hx
    have ev:=DX g2
    subst ev
    refine⟨a,ns,rfl,g1,h64,fun ns' pm d hd hk=>?_⟩
    exact q (.l (ns'.map D.int)) _ ⟨_,q1.z⟩ (e1.trans (Ext.own e1.sub hd _)) ⟨d,ns'.map V.int,rfl,Ac,DH ns'⟩ (fun ys a _ h2=>by
     cases h2
     exact⟨e1.hh.free hd,hk d _ Ac,e1.sub.free hd⟩) (h1 ns' pm)
   ·exact h1.elim⟩⟩
end
end L3
namespace L3
open PySem PySem.Spec PyProof.Rows L2
def K5 (idx:List Nat)(ws:TX3)(tt:TT3)(te:TE3):TE3:=fun τ R=>ws τ fun xs=>∃J:Nat→List D→Prop,J 0 []∧(∀n ds,J n ds→ds.length≤n) ∧
 (∀(n:Nat)(x:D)(ds:List D),xs[n]? = some x→J n ds→tt (Nb τ idx x) fun b=>if b=true then te (Nb τ idx x) (fun s=>dd s.arg fun y=>J (n+1) (ds++[y])) else J (n+1) ds)∧xs.length≤100000∧∀ds,J xs.length ds→R (.l ds)
section
variable {X:L2.Cx}{x:Str}{px pos:Pos}{scope:Scope}{N:List Str}{idx:List Nat}{elt iter:Expr}{ifs:List Expr}{wi:TI}{ws:TX3}{tt:TT3}{te:TE3}
theorem GA (hsrc:Src X wi ws){σ:St}{H:Hp}{Q:VK} (h:FE X (K5 idx ws tt te) σ H Q):K1 X.K idx wi (fun H₀=>FT (cxC X N scope H₀) tt) (fun H₀=>FE (cxC X N scope H₀) te) σ H Q:=by
 obtain⟨B,z,τ,R,r,ht,q⟩:=h
 refine hsrc B τ σ H z _ _ r ht fun J0 p1 xs e1 hP hJ=>fun D' hD hK=>?_
 obtain⟨J,j0,jl,hel,hsz,hR⟩:=hP
 have sz:(100000:Nat)<sizeLine:=∅
 refine⟨fun i m ys H'=>m=xs.length-i∧i≤xs.length∧∃z',Ext p1 ⟨H',z'⟩∧z' D'=none∧∃ds,Iss X.K z' ys ds∧J i ds,⟨xs.length,rfl,qAw _,p1.z,Ext.own e1.sub hD _,e1.sub.free hD,[],Iss.nil,j0⟩,?_⟩
 rintro i m ys H' hD' ⟨rfl,hi,z',hs,hzD,ds,hiss,hj⟩
 by_cases hlt:i<xs.length
 ·obtain⟨go,yl⟩:=(hJ H' hs.hh).1 i hlt
  refine .inr ⟨go,fun v H'' hy=>?_⟩
  obtain⟨rfl,d,hx,iv⟩:=yl v H'' hy
  have rr:Rep (cxC X N scope p1.h) p1 (Nb τ idx d) (some v::Dd σ idx) ⟨H'',z'⟩:=IU r e1 hs (iv.mono hs.zz)
  have hys:ys.length≤i:=by
   rw[hiss.1]
   exact jl i ds hj
  have keep:∀q:HZ,Ext ⟨H'',z'⟩ q→q.z D'=none:=fun q e=>by
   cases y:q.z D' with
   |none=>rfl
   |some o =>
    rcases e.new D' o y with y|y
    ·exact nomatch (hzD.symm.trans y)
    ·exact nomatch (hD'.symm.trans y)
  refine⟨_,_,_,_,rr,hel i d ds hx hj,fun b q3 e3 hb=>?_⟩
  cases b with
  |true =>
   rw[if_pos rfl] at hb ⊢
   refine⟨_,_,_,_,rr.mono e3,hb,fun s v2 q4 e4 i4 f4 h4=>?_⟩
   obtain⟨y,hy',h4⟩:=Cm h4
   obtain⟨z5,e5,i5⟩:=Dc e4 i4 f4
   rw[hy'] at i5
   have e35:=e3.trans e5
   have hD4:q4.h D'=some (.lst ys):=e35.hh _ _ hD'
   have hz5:z5 D'=none:=keep _ e35
   refine⟨hD4,(),xs.length-(i+1),(),rfl,hlt,z5,?_,hz5,ds++[y],?_,h4⟩
   ·have e15:=hs.trans e35
    refine⟨fun b o hb'=>?_,e15.zz,fun b o hb'=>?_,e15.new⟩
    ·have hne:b≠D':=by rintro rfl;rw[hD] at hb';cases hb'
     show upd q4.h D' _ b=some o
     rw[Af hne]
     exact e15.hh b o hb'
    ·have hne:b≠D':=by
      rintro rfl
      have hb2:z5 b=some o:=hb'
      rw[hz5] at hb2;cases hb2
     show upd q4.h D' _ b=some o
     rw[Af hne]
     exact e15.sub b o hb'
   ·exact(hiss.mono e35.zz).snoc i5
  |false =>
   rw[if_neg qAe] at hb ⊢
   exact⟨e3.hh _ _ hD',xs.length-(i+1),(),rfl,hlt,q3.z,hs.trans e3,keep _ e3,ds,hiss.mono e3.zz,hb⟩
 ·have ei:i=xs.length:=()
  subst ei
  refine .inl ⟨(hJ H' hs.hh).2 _ (qAg _),q (.l ds) _ ⟨H',z'⟩ (e1.trans hs) ⟨D',ys,rfl,hD',hiss⟩ (fun xs a _ h2=>?_) (hR ds hj)⟩
  ·cases h2
   exact⟨e1.hh.free hD,hK,hzD⟩
theorem OY (O:BG X x scope N idx)(hc:X.calm=true)(hi:PI X (.Name x px) iter wi)(hsrc:Src X wi ws)(hifs:∀cl C s₀ H₀ fp,Im (AE X N scope cl C s₀ H₀ fp) ifs tt)(helt:∀cl C s₀ H₀ fp,PE3 (AE X N scope cl C s₀ H₀ fp) elt te)
 (hs:∀x,foldedSetIterable iter X.env x=pure x:=by intro _;rfl):PE3 X (.ListComp elt [⟨.Name x px,iter,ifs,0⟩] scope pos) (K5 idx ws tt te) :=
 ⟨Al (LH O hc hi (Gd hifs) (Gg helt) hs) fun σ H Q h=>GA hsrc h⟩
theorem UI {i:Nat}{y:Str}{py spos:Pos} (O:BG X x scope N idx) (hc:X.calm=true) (hi:PI X (.Name x px) iter wi) (hsrc:Src X wi ws) (hifs:∀cl C s₀ H₀ fp,Im (AE X N scope cl C s₀ H₀ fp) ifs tt) (helt:∀cl C s₀ H₀ fp,PE3 (AE X N scope cl C s₀ H₀ fp) elt te)
 (hN:X.N.Nodup) (hy:X.N[i]? = some y) (hly:Loc X.env.scope y)
 (hsw:swapsWith (.ListComp elt [⟨.Name x px,iter,ifs,0⟩] scope pos) (some (.Name y py)) spos.line X.env=pure true:=by rfl) (hs:∀x,foldedSetIterable iter X.env x=pure x:=by intro _;rfl)
 (hfn:X.fn y=true∨X.env.scope.names.lookup y=some .local:=by first|exact .inl rfl|exact .inr rfl|assumption) (hp:Bi X i:=by first|exact AZ rfl|exact A0 rfl ∅|assumption) :
 PS3 X (.Assign [.Name y py] (.ListComp elt [⟨.Name x px,iter,ifs,0⟩] scope pos) spos) (Td i (K5 idx ws tt te)) :=
 ⟨AF (E4 O hc hi (Gd hifs) (Gg helt) hN hy hly hsw hs hfn) fun D2 σ H hh=>by obtain⟨B,z,τ,D3,r,ht,c⟩:=hh;exact GA hsrc ⟨B,z,τ,_,r,ht,fun s v H' e i f h=>by
  cases s with
  |r _=>exact h.elim
  |d y=>exact c.nx _ _ _ (r.set e i f rfl hp) h
  |l ys=>exact c.nx _ _ _ (r.set e i f rfl hp) h⟩⟩
end
section
variable {X:L2.Cx}{pos:Pos}
def Xm (i:Nat):TS3:=fun D3 τ=>match τ[i]? with
 |some (some (.l _))=>D3.nx (τ.set i (some (.l [])))
 |_=>False
theorem T7 {i:Nat}{o:Expr}{apos cpos:Pos} (h:PS X (.Expr (.Call (.Attribute o "clear" apos) [] [] cpos) pos) (Nt (Us X.K "list" NZ (Gw i)))):PS3 X (.Expr (.Call (.Attribute o "clear" apos) [] [] cpos) pos) (Xm i):=⟨AF h fun D2 σ H hh=>by
 obtain⟨B,z,τ,D3,r,ht,c⟩:=hh
 unfold Xm at ht
 split at ht
 ·rename_i xs hs
  obtain⟨v,h1,a,vs,rfl,h2,h3⟩:=r.val i _ hs
  exact⟨.ref a,h1,.inl ⟨rfl,vs,SqL.of h2⟩,a,vs,rfl,rfl,h2,c.nx _ _ _ (r.put hs h1 h2 Iss.nil) ht⟩
 ·exact ht.elim⟩
end
end L3
namespace CH
open PySem PySem.Builtin.Str
def mkS (l:List Nat):Str:=⟨l.toArray⟩
theorem mkS_of (x:Str):mkS x.cps.toList=x:=by cases x;rfl
theorem mkS_list (l:List Nat):(mkS l).cps.toList=l:=rfl
theorem Fw {a b:List Nat} (h:mkS a=mkS b):a=b:=by
 have:=congrArg (fun x:Str=>x.cps.toList) h
 simpa [mkS] using this
theorem mkS_len (l:List Nat):(mkS l).length=l.length:=by simp[mkS,Str.length]
theorem Ao (a b:List Nat):mkS a++mkS b=mkS (a++b):=by
 show Str.append (mkS a) (mkS b)=mkS (a++b)
 simp[mkS,Str.append]
def cutAt (c:Nat):List Nat→List (List Nat)
 |[]=>[[]]
 |d::r=>if d=c then []::cutAt c r else match cutAt c r with
  |[]=>[[d]]
  |p::ps=>(d::p)::ps
def posAt (c:Nat):Nat→List Nat→List Nat
 |_,[]=>[]
 |k,d::r=>if d=c then k::posAt c (k+1) r else posAt c (k+1) r
theorem Mh (c:Nat):∀l,∃p ps,cutAt c l=p::ps
 |[]=>⟨[],[],rfl⟩
 |d::r=>by
  unfold cutAt
  split
  ·exact⟨_,_,rfl⟩
  ·split
   ·exact⟨_,_,rfl⟩
   ·exact⟨_,_,rfl⟩
theorem P0 (x:Str)(c:Nat):∀(m k:Nat)(st:Array Nat×Nat),k+m=x.length+1→st.2≤k→st.1.size≤k →
 (forIn (m:=Id) (List.range' k m) st (StrLaws.occBody x ⟨#[c]⟩ x.length (x.length+1))).run.fst.toList=st.1.toList++posAt c k (x.cps.toList.drop k):=by
 have hn:x.cps.toList.length=x.length:=Array.length_toList
 intro m
 induction m with
 |zero =>
  intro k st h1 _ _
  have:x.cps.toList.drop k=[]:=qAJ ()
  rw[this]
  simp[posAt]
 |succ m ih =>
  intro k st h1 h2 h3
  rw[List.range'_succ,qBv]
  unfold StrLaws.occBody
  have hk:=StrLaws.subAt_one x c k
  by_cases e:x.cps.toList[k]? = some c
  ·have hc:=hk.mpr e
   rw[if_pos ⟨⟨⟨(),h2⟩,hc.1⟩,hc.2⟩]
   have hlt:k<x.cps.toList.length:=(qAj.mp e).1
   have hd:x.cps.toList.drop k=c::x.cps.toList.drop (k+1):=by
    rw[qAS hlt]
    congr 1
    exact(qAj.mp e).2
   have:=ih (k+1) (st.1.push k,k+(⟨#[c]⟩:Str).length) () (qAg _) (by simp;omega)
   rw[hd]
   show(forIn (m:=Id) (List.range' (k+1) m) (st.1.push k,k+(⟨#[c]⟩:Str).length) (StrLaws.occBody x ⟨#[c]⟩ x.length (x.length+1))).run.fst.toList=_
   rw[this]
   simp[posAt]
  ·rw[if_neg fun z=>e (hk.mp ⟨z.1.2,z.2⟩)]
   have:=ih (k+1) (st.1,st.2) () (by show st.2≤k+1;omega) (by show st.1.size≤k+1;omega)
   show(forIn (m:=Id) (List.range' (k+1) m) (st.1,st.2) (StrLaws.occBody x ⟨#[c]⟩ x.length (x.length+1))).run.fst.toList=_
   rw[this]
   congr 1
   by_cases hlt:k<x.cps.toList.length
   ·rw[qAS hlt]
    have hne:x.cps.toList[k]≠c:=fun z=>e (by rw[qAc hlt,z])
    rw[posAt,if_neg hne]
   ·rw[qAJ (),qAJ ()]
    rfl
theorem occ_is (x:Str)(c:Nat):occurrences x ⟨#[c]⟩ 0 x.length (x.length+1)=posAt c 0 x.cps.toList:=by
 rw[StrLaws.occ_eq]
 have:=P0 x c (x.length+1) 0 (#[],0) () (qAg _) (qAg _)
 simpa using this
theorem LV {l:List Nat}{a k d:Nat}{r:List Nat} (h:l.drop k=d::r) (hak:a≤k):(l.drop a).take (k+1-a)=(l.drop a).take (k-a)++[d]:=by
 have hlt:k<l.length:=by
  rcases qCR k l.length with z|z
  ·exact z
  ·rw[qAJ z] at h;cases h
 have hd:l[k]=d:=by
  rw[qAS hlt] at h
  exact(List.cons.inj h).1
 have e:k+1-a=(k-a)+1:=()
 rw[e,qBm]
 congr 1
 rw[qCk]
 have e2:a+(k-a)=k:=()
 rw[e2,qAc hlt,hd]
 rfl
theorem Ml (l:List Nat)(c:Nat):∀(r:List Nat)(k a:Nat),l.drop k=r→a≤k→k≤l.length→∃p ps,cutAt c r=p::ps ∧
 ((a::(posAt c k r).map (· + 1)).zip (posAt c k r++[l.length])).map (fun z=>(l.drop z.1).take (z.2-z.1))=((l.drop a).take (k-a)++p)::ps:=by
 intro r
 induction r with
 |nil =>
  intro k a h hak hkl
  have:l.length≤k:=List.drop_eq_nil_iff.mp h
  have e:k=l.length:=()
  subst e
  exact⟨[],[],rfl,by simp[posAt]⟩
 |cons d r ih =>
  intro k a h hak hkl
  have hlt:k<l.length:=by
   rcases qCR k l.length with z|z
   ·exact z
   ·rw[qAJ z] at h;cases h
  have h':l.drop (k+1)=r:=by
   rw[←List.drop_drop,h];rfl
  by_cases e:d=c
  ·obtain⟨p,ps,e1,e2⟩:=ih (k+1) (k+1) h' (qAg _) hlt
   refine⟨[],cutAt c r,by rw[cutAt,if_pos e],?_⟩
   have e3:posAt c k (d::r)=k::posAt c (k+1) r:=by rw[posAt,if_pos e]
   rw[e3,qA8,qBG,qBS,qA8,e2,e1]
   simp
  ·obtain⟨p,ps,e1,e2⟩:=ih (k+1) a h' () hlt
   refine⟨d::p,ps,by rw[cutAt,if_neg e,e1],?_⟩
   have e3:posAt c k (d::r)=posAt c (k+1) r:=by rw[posAt,if_neg e]
   rw[e3,e2,LV h hak]
   simp
theorem IK {c d:Nat}{r p:List Nat}{ps:List (List Nat)} (h:cutAt c r=p::ps) (hd:d≠c):cutAt c (d::r)=(d::p)::ps:=by rw[cutAt,if_neg hd,h]
theorem cut_no {c:Nat}:∀{p:List Nat},c∉p→cutAt c p=[p]
 |[],_=>rfl
 |d::r,h=>IK (cut_no fun z=>h (qAi _ z)) fun z=>h (by rw[z];exact qAt ..)
theorem Il {c:Nat}{r:List Nat}:∀{p:List Nat},c∉p→cutAt c (p++c::r)=p::cutAt c r
 |[],_=>by rw[qBP,cutAt,if_pos rfl]
 |d::q,h=>IK (Il fun z=>h (qAi _ z)) fun z=>h (by rw[z];exact qAt ..)
theorem pos_nil {c:Nat}:∀{l:List Nat}{k:Nat},posAt c k l=[]→c∉l
 |[],_,_=>by simp
 |d::r,k,h=>by
  rw[posAt] at h
  split at h
  ·cases h
  ·rename_i e
   intro z
   rcases qAq.mp z with z|z
   ·exact e z.symm
   ·exact pos_nil h z
theorem sub_is (x:Str)(i j:Nat)(h:j≤x.length):strSub x i j=mkS ((x.cps.toList.drop i).take (j-i)):=by
 unfold strSub mkS
 congr 1
 apply Array.ext'
 simp[Array.toList_extract,List.extract_eq_take_drop]
theorem NP (c:Nat):∀(l:List Nat)(k:Nat),∀i∈posAt c k l,i<k+l.length
 |[],_,i,h=>by simp[posAt] at h
 |d::r,k,i,h=>by
  have:=NP c r (k+1)
  rw[posAt] at h
  simp only[qAd]
  split at h
  ·rcases qAq.mp h with z|z
   ·omega
   ·have:=this i z;omega
  ·have:=this i h;omega
theorem parts_cut (x:Str)(c:Nat):partsBetween x (posAt c 0 x.cps.toList) 1=(cutAt c x.cps.toList).map mkS:=by
 have hn:x.cps.toList.length=x.length:=Array.length_toList
 obtain⟨p,ps,e1,e2⟩:=Ml x.cps.toList c x.cps.toList 0 0 rfl (qAg _) (qAw _)
 have e3:cutAt c x.cps.toList=((0::(posAt c 0 x.cps.toList).map (· + 1)).zip (posAt c 0 x.cps.toList++[x.cps.toList.length])).map (fun z=>(x.cps.toList.drop z.1).take (z.2-z.1)):=by
  rw[e2,e1];simp
 rw[e3]
 unfold partsBetween
 rw[qBr,hn]
 refine qBM fun z hz=>?_
 have hz2:=qBO hz
 have:z.2≤x.length:=by
  rcases qAB.mp hz2.2 with w|w
  ·have:=NP c _ _ _ w;omega
  ·have:z.2=x.length:=by simpa using w
   omega
 exact sub_is x z.1 z.2 this
theorem kind_one {x:Str}{c:Nat} (hc:c<256):(Builtin.Str.strKind x<Builtin.Str.strKind ⟨#[c]⟩)=False:=by
 have:Builtin.Str.strKind ⟨#[c]⟩=1:=by
  unfold Builtin.Str.strKind
  rw[if_pos]
  simpa using hc
 rw[this]
 unfold Builtin.Str.strKind
 simp only[eq_iff_iff,iff_false]
 repeat' split
 all_goals decide
open NumText
theorem JG (m:Nat):∀c∈(Nat.toDigits 10 m).map Char.toNat,48≤c∧c≤57:=by
 intro c hc
 obtain⟨ch,hch,e⟩:=qBa.mp hc
 have h:=Nat.isDigit_of_mem_toDigits ∅ ∅ hch
 rw[←e]
 simp only[Char.isDigit,qAF,decide_eq_true_eq] at h
 have h1:(48:Nat)≤ch.val.toNat:=h.1
 have h2:ch.val.toNat≤57:=h.2
 exact⟨h1,h2⟩
end CH
namespace CH
open PySem PySem.Builtin.Str NumText
def num (m:Nat):List Nat:=(Nat.toDigits 10 m).map Char.toNat
theorem OH (m:Nat):digitsVal (num m)=m:=PySem.W.KIN.val_back m
theorem FQ (m:Nat):AllDigits (num m):=JG m
theorem Lr (m:Nat){c:Nat} (h:c<48∨57<c):c∉num m:=fun z=>by have:=FQ m c z;omega
theorem OV (m:Nat):0<(num m).length:=by unfold num;rw[qAf];exact Nat.length_toDigits_pos
theorem Lj (m:Nat):num m≠[]:=fun z=>by have:=OV m;rw[z] at this;exact absurd this ∅
theorem Ih {m k:Nat} (hk:0<k) (h:m<10^k):(num m).length≤k:=by unfold num;rw[qAf];exact(Nat.length_toDigits_le_iff ∅ hk).mpr h
theorem Hh {m:Nat} (h:m<10):num m=[48+m]:=by
 unfold num
 rw[Nat.toDigits_of_lt_base h]
 have:∀d:Nat,d<10→(Nat.digitChar d).toNat=48+d:=∅
 show [(Nat.digitChar m).toNat]=_
 rw[this m h]
theorem Pm {m:Nat} (h:¬m<10):num m=num (m/10)++[48+m%10]:=by
 have hm:m%10<10:=Nat.mod_lt m ∅
 have t:Nat.toDigits 10 (m/10)++Nat.toDigits 10 (m%10)=Nat.toDigits 10 (10*(m/10)+m%10):=Nat.toDigits_append_toDigits ∅ () hm
 rw[Nat.div_add_mod] at t
 rw[←Hh hm]
 unfold num
 rw[←t,qA9]
theorem Ni:∀m:Nat,(num m).head? = some 48→m=0:=by
 intro m
 induction m using Nat.strongRecOn with
 |_ m ih =>
  intro h
  by_cases h1:m<10
  ·rw[Hh h1] at h
   have:48+m=48:=by simpa using h
   omega
  ·rw[Pm h1] at h
   have:=ih (m/10) () (by
    cases e:num (m/10) with
    |nil=>exact absurd e (Lj _)
    |cons a r=>rw[e] at h;simpa using h)
   omega
def fig (l:List Nat):Option Nat:=if l≠[]∧l.length≤60∧(∀c∈l,48≤c∧c≤57)∧¬(l.head? = some 48∧1<l.length) then some (digitsVal l) else none
theorem HU {m:Nat} (h:m<10^60):fig (num m)=some m:=by
 unfold fig
 rw[if_pos,OH]
 refine⟨Lj m,Ih ∅ h,FQ m,fun⟨z,y⟩=>?_⟩
 have:=Ni m z
 subst this
 exact absurd y ∅
def rdR (l:List Nat):Option (Nat×Nat):=match cutAt 47 l with
 |[p]=>(fig p).map (·,1)
 |[p,q]=>match fig p,fig q with
  |some a,some b=>if 2≤b∧Nat.gcd a b=1 then some (a,b) else none
  |_,_=>none
 |_=>none
def Gy (a b:Nat):List Nat:=if b=1 then num a else num a++47::num b
theorem Md {a b:Nat} (ha:a<10^60) (hb:b<10^60) (h1:1≤b) (hg:Nat.gcd a b=1):rdR (Gy a b)=some (a,b):=by
 unfold rdR Gy
 by_cases e:b=1
 ·rw[if_pos e,cut_no (Lr a ∅)]
  simp only
  rw[HU ha,e];rfl
 ·rw[if_neg e,Il (Lr a ∅),cut_no (Lr b ∅)]
  simp only
  rw[HU ha,HU hb]
  simp only
  rw[if_pos ⟨(),hg⟩]
def tx (i:Int):Str:=Str.ofString (toString i)
theorem Xu (m:Nat):tx (m:Int)=mkS (num m):=by
 rw[←mkS_of (tx (m:Int))]
 exact congrArg mkS (PySem.W.KIN.signs_num m)
theorem PB (c:Nat):(⟨#[c]⟩:Str)=mkS [c]:=rfl
theorem Xa:(Str.ofString "/")=mkS [47]:=by decide +kernel
theorem Ks {l:List Nat} (h:∀c∈l,c<128):(mkS l).cps.all (· < 128)=true:=by
 rw[←Array.all_toList,qAp]
 exact fun c hc=>decide_eq_true (h c hc)
theorem QD {i:Int} (h:i.natAbs<2^1000):i.natAbs.log2<1920:=by
 by_cases z:i.natAbs=0
 ·rw[z];decide
 ·exact qBf ((Nat.log2_lt z).mpr h) ∅
theorem str_nil (x:Str):Str.empty++x=x:=by
 show Str.append Str.empty x=x
 unfold Str.append Str.empty
 cases x;simp
theorem VE {l:List Nat}{n:Nat} (h:fig l=some n):PySem.intText? (mkS l)=some (n:Int):=by
 unfold fig at h
 split at h
 ·rename_i c
  cases h
  exact intText_digits (x:=mkS l) c.2.2.1 c.1 (by rw[mkS_len];omega)
 ·cases h
theorem Vq {l:List Nat} (h:l=[]∨60<l.length):fig l=none:=by
 unfold fig
 rw[if_neg]
 intro z
 rcases h with h|h
 ·exact z.1 h
 ·have:=z.2.1
  omega
theorem UR {l:List Nat}{c:Nat} (h:c∈l) (hc:¬(48≤c∧c≤57)):fig l=none:=by
 unfold fig
 rw[if_neg]
 exact fun z=>hc (z.2.2.1 c h)
theorem Ti {l:List Nat} (h:l.head? = some 48∧1<l.length):fig l=none:=by
 unfold fig
 rw[if_neg]
 exact fun z=>z.2.2.2 h
theorem Tf {l:List Nat} (h1:¬(l=[]∨60<l.length)) (h2:∀c∈l,48≤c∧c≤57) (h3:¬(l.head? = some 48∧1<l.length)):fig l=some (digitsVal l):=by
 unfold fig
 rw[if_pos]
 exact⟨fun z=>h1 (.inl z),(),h2,h3⟩
theorem PV (c:Nat):∀(l:List Nat),∀p∈cutAt c l,p.length≤l.length∧∀d∈p,d∈l
 |[],p,h=>by
  have:p=[]:=by simpa [cutAt] using h
  subst this
  exact⟨qAg _,fun d h=>h⟩
 |d::r,p,h=>by
  have ih:=PV c r
  obtain⟨a,ps,e⟩:=Mh c r
  rw[cutAt,e] at h
  rw[e] at ih
  split at h
  ·rcases qAq.mp h with h|h
   ·subst h
    exact⟨qAw _,fun d h=>by cases h⟩
   ·have:=ih p h
    exact⟨by simp only[qAd];omega,fun z hz=>qAi _ (this.2 z hz)⟩
  ·rcases qAq.mp h with h|h
   ·subst h
    have:=ih a (qAt ..)
    refine⟨by simp only[qAd];omega,fun z hz=>?_⟩
    rcases qAq.mp hz with hz|hz
    ·rw[hz];exact qAt ..
    ·exact qAi _ (this.2 z hz)
   ·have:=ih p (qAi _ h)
    exact⟨by simp only[qAd];omega,fun z hz=>qAi _ (this.2 z hz)⟩
theorem Sf:(Str.ofString "0123456789").cps.toList=[48,49,50,51,52,53,54,55,56,57]:=by decide +kernel
theorem T3 {c:Nat}:(⟨#[c]⟩:Str)=Str.ofString "0" ↔ c=48:=by
 have e:Str.ofString "0"=⟨#[48]⟩:=by decide +kernel
 rw[e]
 constructor
 ·intro h
  have:=congrArg (fun x:Str=>x.cps.toList) h
  simpa using this
 ·rintro rfl;rfl
def sh (q:Rat):Str:=mkS (Gy q.num.toNat q.den)
theorem Yo {q:Rat} (h0:0≤q.num) (h1:q.num<10^60) (h2:q.den<10^60):rdR (Gy q.num.toNat q.den)=some (q.num.toNat,q.den):=by
 refine Md () h2 q.den_pos ?_
 have:=q.reduced
 have e:q.num.natAbs=q.num.toNat:=()
 rw[e] at this
 exact this
theorem S0 {a b:Nat} (ha:a<2^1000) (hb:b<2^1000):(Gy a b).length≤800:=by
 have h:(2:Nat)^1000<10^302:=by decide +kernel
 have h1:=Ih (m:=a) (k:=302) ∅ (qBf ha h)
 have h2:=Ih (m:=b) (k:=302) ∅ (qBf hb h)
 unfold Gy
 split
 ·omega
 ·simp only[qAa,qAd]
  omega
theorem RV {a b:Nat}:∀c∈Gy a b,c<128:=by
 intro c hc
 unfold Gy at hc
 have h1:=FQ a c
 have h2:=FQ b c
 split at hc
 ·have:=h1 hc;omega
 ·rcases qAB.mp hc with z|z
  ·have:=h1 z;omega
  ·rcases qAq.mp z with z|z
   ·omega
   ·have:=h2 z;omega
end CH
namespace L3
open PySem PySem.Spec PyProof.Rows L2 PySem.Builtin.Str
section
variable {X:Cx}{e a b c o:Expr}{te ta tb tc to:TE3}{pos:Pos}{es:List Expr}{tr:TA3}
def tS (x:S)(k:Str→Prop):Prop:=match x with
 |.d (.str y)=>k y
 |_=>False
theorem Bx {x:S}{k:Str→Prop} (h:tS x k):∃y,x=.d (.str y)∧k y:=by
 unfold tS at h
 split at h
 ·exact⟨_,rfl,h⟩
 ·exact h.elim
theorem S5 {x:Str}{p:Pos}{T:String}{r:List S→(S→Prop)→Prop} (hc:Co X (.type T) r) (hg:Gl X x) (hm:X.mg x=none) (hv:bootBuiltins x=some (.type T)) (ha:PA3 X (e::es) tr) (hn:x≠"__name__":=by decide)
 (hdb:(x==("__debug__":Str))=false:=by decide) (he:starEach (e::es) X.env=(false,eval e X.env)::starEach es X.env:=by exact AI rfl) (hpl:(backTo pos (starEach es X.env)).any (·.1)=false:=by exact A1 rfl) :
 PE3 X (.Call (.Name x p) (e::es) [] pos) (vCB r tr):=⟨Al (Cs hc hg hm hv ha.out hn hdb he hpl) fun σ H Q hh=>by
  obtain⟨B,z,τ,R,r,ht,q⟩:=hh
  exact⟨B,_,τ,_,r,ht,fun ss vs H1 e1 i1 h1=>⟨H1.z,ss,R,e1.sub,i1,h1,fun s v H2 e2 i2 f2 h2=>q s v H2 (e1.trans e2) i2 (CA e1 f2) h2⟩⟩⟩
def WL:List S→(S→Prop)→Prop:=fun ss R=>match ss with
 |[.d (.int i)]=>i.natAbs.log2<1920∧R (.d (.str (Str.ofString (toString i))))
 |_=>False
theorem Yz:Co X (.type "str") WL:=Bm GZ fun xs H Q hh=>by
 obtain⟨z,ss,R,hz,ha,h3,q⟩:=hh
 unfold WL at h3
 split at h3
 ·rename_i i
  obtain⟨v,rfl,h⟩:=Ef ha
  cases Is.int_inv h
  exact⟨i,rfl,h3.1,q (.d _) _ ⟨H,z⟩ (Ext.refl hz) (Is.str _) Bp h3.2⟩
 ·exact h3.elim
theorem FR:A7 X (.type "int") (fun xs H Q=>∃x n,xs=[.str x]∧PySem.intText? x=some n∧x.length≤640∧Q (.int n) H):=by
 intro pins s σ H xs us Q I r h
 obtain⟨x,n,rfl,hn,hl,q⟩:=h
 obtain⟨u,rfl,t,rfl⟩:=Bd r
 exact PySem.W.KIN.call_text hn hl ⟨.int n,H,I.tok _,⟨_,rfl⟩,q⟩
def XH:List S→(S→Prop)→Prop:=fun ss R=>match ss with
 |[.d (.str x)]=>∃n,PySem.intText? x=some n∧x.length≤640∧R (.d (.int n))
 |[.d (.bl k)]=>R (.d (.int (if k then 1 else 0)))
 |_=>False
theorem YW:Co X (.type "int") XH:=Bm (GO.or FR) fun xs H Q hh=>by
 obtain⟨z,ss,R,hz,ha,h3,q⟩:=hh
 unfold XH at h3
 split at h3
 ·rename_i x
  obtain⟨n,hn,hl,h3⟩:=h3
  obtain⟨v,rfl,h⟩:=Ef ha
  cases Is.str_inv h
  exact .inr ⟨x,n,rfl,hn,hl,q (.d _) _ ⟨H,z⟩ (Ext.refl hz) (Is.int _) Bp h3⟩
 ·rename_i k
  obtain⟨v,rfl,h⟩:=Ef ha
  cases Is.bl_inv h
  exact .inl (.inr ⟨k,rfl,q (.d _) _ ⟨H,z⟩ (Ext.refl hz) (Is.int _) Bp h3⟩)
 ·exact h3.elim
def RA:List S→(S→Prop)→Prop:=fun ss R=>match ss with
 |[.d (.str x)]=>x.length≤1000000∧R (.d (.int x.length))
 |_=>False
theorem G2:Co X (.builtin "len") RA:=Bm GL fun xs H Q hh=>by
 obtain⟨z,ss,R,hz,ha,h3,q⟩:=hh
 unfold RA at h3
 split at h3
 ·rename_i x
  obtain⟨v,rfl,h⟩:=Ef ha
  cases Is.str_inv h
  exact⟨x,rfl,qAE h3.1 ∅,q (.d _) _ ⟨H,z⟩ (Ext.refl hz) (Is.int _) Bp h3.2⟩
 ·exact h3.elim
theorem Uz {t:TE} (h:PE X e t):PE X (.FormattedValue e (-1) none pos) (fun σ H Q=>t σ H fun v H1=>∃i,v=.int i∧i.natAbs.log2<1920∧Q (.str (Str.ofString (toString i))) H1):=by
 intro pins s σ H Q I q
 refine FormattedValue_plain (thn (h pins s σ H _ I q) fun v s1 hh=>?_)
 obtain⟨x,H1,I1,r1,i,rfl,hz,q1⟩:=hh
 obtain⟨t,rfl⟩:=r1
 exact formatField_int_small hz ⟨.str _,H1,I1.tok _,⟨_,rfl⟩,q1⟩
def vFv (te:TE3):TE3:=fun τ R=>te τ fun x=>match x with
 |.d (.int i)=>i.natAbs.log2<1920∧R (.d (.str (Str.ofString (toString i))))
 |_=>False
theorem ZP (ha:PE3 X a ta):PE3 X (.FormattedValue a (-1) none pos) (vFv ta):=⟨Al (Uz ha.out) fun σ H Q hh=>by
 obtain⟨B,z,τ,R,r,ht,q⟩:=hh
 refine⟨B,_,τ,_,r,ht,fun s v H' e i f h=>?_⟩
 split at h
 ·rename_i i'
  exact⟨i',Is.int_inv i,h.1,q (.d _) _ H' e (Is.str _) Bp h.2⟩
 ·exact h.elim⟩
theorem SS {ta tb tc:TE} (ha:PE X a ta) (hb:PE X b tb) (hc:PE X c tc):PE X (.JoinedStr [a,b,c] pos) (fun σ H Q=>ta σ H fun x H1=>∃xs,x=.str xs∧xs.length≤100000∧tb σ H1 fun y H2=>∃ys,y=.str ys∧ys.length≤100000 ∧
 tc σ H2 fun z H3=>∃zs,z=.str zs∧zs.length≤100000∧Q (.str (xs++ys++zs)) H3):=by
 intro pins s σ H Q I q
 have hs:sizeLine=16777216:=sizeLine_eq
 refine JoinedStr_many ?_
 refine joinParts_cons (thn (ha pins s σ H _ I q) fun v s1 hh=>?_)
 obtain⟨x,H1,I1,r1,xs,rfl,l1,q1⟩:=hh
 obtain⟨t1,rfl⟩:=r1
 show(Str.empty++xs).length≤sizeLine∧wpAny _ _ (joinParts (Str.empty++xs) _) _ _ _
 rw[CH.str_nil]
 refine⟨(),joinParts_cons (thn (hb pins s1 σ H1 _ I1 q1) fun v s2 hh=>?_)⟩
 obtain⟨x,H2,I2,r2,ys,rfl,l2,q2⟩:=hh
 obtain⟨t2,rfl⟩:=r2
 refine⟨by rw[strLen_append];omega,joinParts_cons (thn (hc pins s2 σ H2 _ I2 q2) fun v s3 hh=>?_)⟩
 obtain⟨x,H3,I3,r3,zs,rfl,l3,q3⟩:=hh
 obtain⟨t3,rfl⟩:=r3
 have hl:(xs++ys++zs).length≤sizeLine:=by rw[strLen_append,strLen_append];omega
 exact⟨hl,joinParts_nil ⟨.str _,H3,I3.tok _,⟨_,rfl⟩,q3⟩ hl⟩
def ZF (ta tb tc:TE3):TE3:=fun τ R=>ta τ fun x=>tS x fun xs=>xs.length≤100000∧tb τ fun y=>tS y fun ys=>ys.length≤100000∧tc τ fun z=>tS z fun zs=>zs.length≤100000∧R (.d (.str (xs++ys++zs)))
theorem Yn (ha:PE3 X a ta)(hb:PE3 X b tb)(hc:PE3 X c tc):PE3 X (.JoinedStr [a,b,c] pos) (ZF ta tb tc):=⟨Al (SS ha.out hb.out hc.out) fun σ H Q hh=>by
 obtain⟨B,z,τ,R,r,ht,q⟩:=hh
 refine⟨B,_,τ,_,r,ht,fun x v H1 e1 i1 f1 h1=>?_⟩
 obtain⟨xs,rfl,l1,h1⟩:=Bx h1
 refine⟨xs,Is.str_inv i1,l1,B,_,τ,_,r.mono e1,h1,fun y u H2 e2 i2 f2 h2=>?_⟩
 obtain⟨ys,rfl,l2,h2⟩:=Bx h2
 refine⟨ys,Is.str_inv i2,l2,B,_,τ,_,r.mono (e1.trans e2),h2,fun y u H3 e3 i3 f3 h3=>?_⟩
 obtain⟨zs,rfl,l3,h3⟩:=Bx h3
 exact⟨zs,Is.str_inv i3,l3,q (.d _) _ H3 (e1.trans (e2.trans e3)) (Is.str _) Bp h3⟩⟩
theorem GB (y:Str){c:Nat} (hc:c<256):Txt.split y ⟨#[c]⟩=(CH.cutAt c y.cps.toList).map CH.mkS:=by
 have hn:y.cps.toList.length=y.length:=Array.length_toList
 unfold Txt.split
 have h1:(⟨#[c]⟩:Str).length=1:=rfl
 rw[CH.occ_is,h1]
 by_cases h:(decide (y.length<1)||decide (Builtin.Str.strKind y<Builtin.Str.strKind ⟨#[c]⟩))=true
 ·rw[if_pos h]
  have:y.length<1:=by
   rcases Bool.or_eq_true_iff.mp h with h|h
   ·exact of_decide_eq_true h
   ·have:=of_decide_eq_true h
    rw[CH.kind_one hc] at this
    exact this.elim
  have e:y.cps.toList=[]:=qAA ()
  rw[e]
  show [y]=[CH.mkS []]
  rw[←e,CH.mkS_of]
 ·rw[if_neg h]
  by_cases h2:(CH.posAt c 0 y.cps.toList).isEmpty=true
  ·rw[if_pos h2,CH.cut_no (CH.pos_nil (List.isEmpty_iff.mp h2))]
   show [y]=[CH.mkS y.cps.toList]
   rw[CH.mkS_of]
  ·rw[if_neg h2,CH.parts_cut]
theorem GF:∀l:List (Str×Tok),AA ((l.map (·.1)).map V.str) (strValues l)
 |[]=>.nil
 |p::r=>.cons ⟨p.2,rfl⟩ (GF r)
theorem Mx:MtR X "str.split" (fun x xs H Q=>∃(y:Str)(c:Nat),x=.str y∧xs=[.str ⟨#[c]⟩]∧c<256∧y.length≤100000∧∀p,H p=none→X.K.lookup p=none→Q (.ref p) (upd H p (.lst (((CH.cutAt c y.cps.toList).map CH.mkS).map V.str)))):=by
 intro pins s σ H x xs v us Q I rx rs h
 obtain⟨y,c,rfl,rfl,hc,hl,q⟩:=h
 obtain⟨t,rfl⟩:=rx
 obtain⟨u,rfl,t',rfl⟩:=Bd rs
 have hs:sizeLine=16777216:=sizeLine_eq
 have hf:H s.heap.objs.size=none:=I.hok.fresh (qAg _)
 have hk:X.K.lookup s.heap.objs.size=none:=by
  cases e:X.K.lookup s.heap.objs.size with
  |none=>rfl
  |some o=>exact absurd (qAh (I.kIn _ _ e)) (qA3 _)
 have hn:(partsBetween y (occurrences y ⟨#[c]⟩ 0 y.length (y.length+1)) (⟨#[c]⟩:Str).length).length≤100002:=by
  have:=StrLaws.occ_length_le y ⟨#[c]⟩ 0 y.length (y.length+1)
  rw[length_partsBetween]
  omega
 have hn2:(Txt.split y ⟨#[c]⟩).length≤100002:=by
  unfold Txt.split
  split
  ·exact qB5 rfl
  ·split
   ·exact qB5 rfl
   ·exact hn
 have fin:∀(l:List (Str×Tok))(k:Tok),l.map (·.1)=Txt.split y ⟨#[c]⟩→EP X pins σ Q (.ref s.heap.objs.size) { s with toks:=k,heap:=s.heap.push { cls:=.type "list",data:=.seq (strValues l).toArray } }:=fun l k e=>by
  have rv:=GF l
  rw[e,GB y hc] at rv
  have hz:(((CH.cutAt c y.cps.toList).map CH.mkS).map V.str).length≤sizeLine:=by
   rw[←GB y hc,qAf]
   omega
  exact⟨.ref s.heap.objs.size,_,I.laid (t':=k) (fun b o e=>qAb _ e) (qAg _) (show Bj X.prog X.w _ _ _ (.lst (((CH.cutAt c y.cps.toList).map CH.mkS).map V.str)) from ⟨hz,_,0,rv,qAm _ rfl⟩),rfl,q _ hf hk⟩
 have hz1:((⟨#[c]⟩:Str).length==0)=false:=rfl
 have call:=fun {S} (m:Meets _ S) h=>PySem.call_meets (prog:=X.prog) (w:=X.w) (A:=X.A) (Q:=EP X pins σ Q) (E:=X.xe) (s:=s) F.slot_str_split (typeIs_str _ _ _) F.entry_str_split (F.args_str_split_2 (.str y t) (.str ⟨#[c]⟩ t')) m h
 cases a1:(decide (y.length<(⟨#[c]⟩:Str).length)||decide (Builtin.Str.strKind y<Builtin.Str.strKind ⟨#[c]⟩)) with
 |true =>
  refine call (meets_str_split_cannot_occur y ⟨#[c]⟩ t t' a1) ?_
  exact fin [(y,t)] s.toks (by unfold Txt.split;rw[if_pos a1];rfl)
 |false =>
  cases a2:(occurrences y ⟨#[c]⟩ 0 y.length (y.length+1)).isEmpty with
  |true =>
   refine call (meets_str_split_not_found y ⟨#[c]⟩ t t' a1 hz1 a2) ?_
   exact fin [(y,t)] s.toks (by unfold Txt.split;rw[a1,if_neg qAe,if_pos a2];rfl)
  |false =>
   refine call (meets_str_split_sep y ⟨#[c]⟩ t t' a1 hz1 a2 () ()) ?_
   show wants _ _ _ { s with toks:=_,heap:=s.heap.push { cls:=.type "list",data:=.seq (strsFrom s.toks (partsBetween y (occurrences y ⟨#[c]⟩ 0 y.length (y.length+1)) (⟨#[c]⟩:Str).length)).toArray } }
   rw[strsFrom_eq]
   exact fin (numbered s.toks _) _ (by rw[numbered_texts];unfold Txt.split;rw[a1,if_neg qAe,a2,if_neg qAe])
def Rv (to te:TE3):TE3:=fun τ R=>to τ fun x=>tS x fun y=>te τ fun z=>tS z fun sep=>∃c,sep=⟨#[c]⟩∧c<256∧y.length≤100000∧R (.l ((CH.cutAt c y.cps.toList).map fun p=>D.str (CH.mkS p)))
theorem Mv {K:PySem.W.Frag}{H:Hp} (l:List (List Nat)):Iss K H ((l.map CH.mkS).map V.str) (l.map fun p=>D.str (CH.mkS p)):=by
 refine⟨by simp,fun i v x h1 h2=>?_⟩
 rw[qBr,qAl] at h1
 rw[qAl] at h2
 cases e:l[i]? with
 |none=>rw[e] at h1;cases h1
 |some p =>
  rw[e] at h1 h2
  cases h1
  cases h2
  exact .str _
theorem UU {ap cp:Pos} (ho:PE3 X o to) (he:PE3 X e te) (hbase:attributeBase o "split" X.env (eval o X.env)=eval o X.env:=by rfl)
 (hfew:((backTo cp (starEach [e] X.env)).all (fun x=>!x.1)&&(backToKw cp (keywordEach [] X.env)).all (fun x=>x.1.isSome)&&decide ([e].length+([]:List Keyword).length+(if ([]:List Keyword).isEmpty then 0 else 1)<30))=true:=by rfl)
 (hline:(ap.endLine==cp.line)=true:=by rfl) (hs:starEach [e] X.env=(false,eval e X.env)::starEach [] X.env:=by rfl) (hplain:(backTo cp (starEach [] X.env)).any (·.1)=false:=by rfl) :
 PE3 X (.Call (.Attribute o "split" ap) [e] [] cp) (Rv to te) :=
 ⟨Al (Ie qA6 PySem.F.slot_str_split PySem.F.type_str_split Mx ho.out (Az he.out A5 hs) hbase hfew hline hs hplain) fun σ H Q hh=>by
  obtain⟨B,z,τ,R,r,ht,q⟩:=hh
  refine⟨B,_,τ,_,r,ht,fun x v H1 e1 i1 f1 h1=>?_⟩
  obtain⟨y,rfl,h1⟩:=Bx h1
  cases Is.str_inv i1
  refine⟨rfl,B,_,τ,_,r.mono e1,h1,fun s u H2 e2 i2 f2 h2=>?_⟩
  obtain⟨sep,rfl,c,rfl,hc,hl,h2⟩:=Bx h2
  cases Is.str_inv i2
  refine⟨y,c,rfl,rfl,hc,hl,fun p hp hk=>q (.l _) _ ⟨_,H2.z⟩ ((e1.trans e2).trans (Ext.own e2.sub hp _)) ⟨p,_,rfl,Ac,Mv _⟩ (fun xs a _ h3=>?_) h2⟩
  cases h3
  exact⟨(e1.trans e2).hh.free hp,hk,e2.sub.free hp⟩⟩
def Its (y:Str):It:=⟨fun i _=>i<y.cps.size,fun i H x H'=>H'=H∧∃c,y.cps[i]? = some c∧x=.str ⟨#[c]⟩,fun i _=>y.cps.size≤i⟩
theorem Mo {P:Program}{w:World}{K:PySem.W.Frag}{tg:Expr} (it:Addr) (y:Str) (t:Tok):MM P w K tg (Its y) [it] it (fun i h=>h.IsStrIter it "str_ascii_iterator" y t i) where
 mem:=by simp
 obj:=fun i h st b hb=>by
  have e:=qAM.mp hb
  subst e
  obtain⟨o,e,c,d⟩:=st
  exact⟨o,e,fun v z=>by rw[d] at z;cases z⟩
 keep:=fun i h h' st k=>by
  obtain⟨o,e,r⟩:=st
  exact⟨o,k it (qAM.mpr rfl) o e,r⟩
 item:=by
  intro X hP hw hK hc i pins s σ H E I hf st hg
  subst hP hw hK
  obtain⟨f0,f1,f2,f3,f4,f5⟩:=hf it (qAM.mpr rfl)
  have hi:y.cps[i]? = some (y.cps[i]'hg):=Array.getElem?_eq_getElem hg
  refine wpAny_pyNext_ascii_item st hi fun h' st' sb=>?_
  have I1:Inv X pins σ H { s with heap:=h',toks:=s.toks+1 }:=I.turned (fun b o hb e=>(sb.2 b hb).trans e) f0 f1 f3 f4 f5
  obtain⟨o,e,c,d⟩:=id st'
  exact⟨_,rfl,LD (s:={ s with heap:=h',toks:=s.toks+1 }) e c d ∅ ⟨.str ⟨#[y.cps[i]'hg]⟩,H,I1,⟨_,rfl⟩,⟨rfl,_,hi,rfl⟩,st',fun b hb=>(hf b hb).1⟩⟩
 done:=by
  intro X hP hw hK hc i pins s σ H E I hf st hg
  subst hP hw hK
  obtain⟨f0,f1,f2,f3,f4,f5⟩:=hf it (qAM.mpr rfl)
  exact wpAny_pyNext_ascii_end (I.ok.hd hc) st (Array.getElem?_eq_none hg) fun h' eb=>⟨rfl,I.turned (t':=s.toks) (fun b o hb e=>eb b o hb e) f0 f1 f3 f4 f5⟩
 self:=fun _ _ _ _ _ st h=>wpAny_pyIter_striter_ascii st h
def Vd (tl:TE):TI:=fun σ H R=>tl σ H fun x H1=>∃y,x=.str y∧y.cps.all (· < 128)=true∧R (Its y) H1
theorem Ru {tg l:Expr}{tl:TE} (hl:PE X l tl):PI X tg l (Vd tl):=by
 intro pins s σ H R I h
 refine thn (hl pins s σ H _ I h) fun v s1 hh=>?_
 obtain⟨x,H1,I1,r1,y,rfl,ha,q⟩:=hh
 obtain⟨t,rfl⟩:=r1
 refine wpAny_pyIter_ascii ha ⟨s1.heap.objs.size,[s1.heap.objs.size],_,_,H1,rfl,I1.kept (t':=s1.toks) fun b o e=>qAb _ e,Mo _ y t,⟨_,qAm _ rfl,rfl,rfl⟩,fun b hb=>?_,q⟩
 have e:=qAM.mp hb
 subst e
 exact I1.fpOk (qAg _) (I1.hok.fresh (qAg _))
def Q9 (j i:Nat)(tb:TS3):TS3:=fun D3 τ=>match τ[j]? with
 |some (some (.d (.str y)))=>y.cps.all (· < 128)=true∧EL i (y.cps.toList.map fun c=>D.str ⟨#[c]⟩) tb D3 τ
 |_=>False
theorem XF {j i:Nat}{x y:Str}{px py:Pos}{body:List Stmt}{tb:TS3} (h:PS X (.For (.Name x px) (.Name y py) body [] pos) (Kg (Vd (Gw j)) (BL i) (FS X tb))) (hp:Bi X i:=by first|exact AZ rfl|exact A0 rfl ∅|assumption):PS3 X (.For (.Name x px) (.Name y py) body [] pos) (Q9 j i tb):=⟨AF h fun D2 σ H hh=>by
 obtain⟨B,z,τ,D3,r,ht,c⟩:=hh
 unfold Q9 at ht
 split at ht
 ·rename_i y hs
  obtain⟨ha,I,i0,turn,out⟩:=ht
  obtain⟨v,h1,h2⟩:=r.val j _ hs
  cases Is.str_inv h2
  refine⟨.str y,h1,y,rfl,ha,fun n m σ1 H1=>m=y.cps.size-n∧n≤y.cps.size∧∃z1 τ1,Rep X ⟨Eu τ σ H,z⟩ τ1 σ1 ⟨H1,z1⟩∧I n τ1,⟨y.cps.size,rfl,qAw _,z,_,r.inB,i0⟩,?_⟩
  rintro n m σ1 H1 ⟨rfl,hn,z1,τ1,r1,ih1⟩
  by_cases hlt:n<y.cps.size
  ·refine .inr ⟨hlt,fun σ' H'=>∃z' τ',Rep X ⟨Eu τ σ H,z⟩ τ' σ' ⟨H',z'⟩∧I (n+1) τ',fun σ' H' p'=>⟨y.cps.size-(n+1),(),rfl,hlt,p'⟩,fun x H' w=>?_⟩
   obtain⟨rfl,c',hc',rfl⟩:=w
   have hx:(y.cps.toList.map fun c=>D.str ⟨#[c]⟩)[n]? = some (D.str ⟨#[c']⟩):=by
    rw[qAl,Array.getElem?_toList,hc'];rfl
   exact⟨_,_,_,_,r1.setd (.str _) hp,turn n τ1 _ hx ih1,c.inB r.leB fun τ' σ' p' r' h'=>⟨p'.z,τ',r',h'⟩⟩
  ·refine .inl ⟨qBF hlt,c.nx _ _ _ (r1.outB r.leB) (out τ1 ?_)⟩
   have e:n=y.cps.size:=()
   rw[qAf,Array.length_toList,←e]
   exact ih1
 ·exact ht.elim⟩
def inS (i j:Str):Bool:=!(Builtin.Str.occurrences j i 0 j.length 1).isEmpty
theorem Kv (c:Nat)(j:Str):inS ⟨#[c]⟩ j=decide (c∈j.cps.toList):=StrLaws.found_one j c
def K0:R3:=fun dx dy R=>match dx,dy with
 |.str i,.str j=>R (.bl (!inS i j))
 |_,_=>False
theorem Th:Dx X (compareOp .NotIn) K0:=Bu GJ fun x y H Q hh=>by
 obtain⟨z,dx,dy,R,hz,hx,hy,h3,q⟩:=hh
 unfold K0 at h3
 split at h3
 ·rename_i i j
  exact⟨i,j,hx.str_inv,hy.str_inv,q _ _ ⟨H,z⟩ (Ext.refl hz) (.bl _) h3⟩
 ·exact h3.elim
def RC:R3:=fun dx dy R=>match dx,dy with
 |.str i,.str j=>i.length+j.length≤1000000∧R (.str (i++j))
 |_,_=>False
theorem Ay:Dx X (binaryOp .Add) RC:=Bu JQ fun x y H Q hh=>by
 obtain⟨z,dx,dy,R,hz,hx,hy,h3,q⟩:=hh
 unfold RC at h3
 split at h3
 ·rename_i i j
  exact⟨i,j,hx.str_inv,hy.str_inv,qAE h3.1 ∅,q _ _ ⟨H,z⟩ (Ext.refl hz) (.str _) h3.2⟩
 ·exact h3.elim
def Zx (ta tb:TE3):TE3:=fun τ R=>ta τ fun x=>tb τ fun y=>tS x fun xs=>match y with
 |.d (.int i)=>xs.length≤1000000∧∃c,atI xs.cps.toList i=some c∧R (.d (.str ⟨#[c]⟩))
 |_=>False
theorem LP (ha:PE3 X a ta)(hb:PE3 X b tb)(hs:Ic b):PE3 X (.Subscript a b pos) (Zx ta tb):=⟨Al (QL NS ha.out hb.out hs) fun σ H Q hh=>by
 obtain⟨B,z,τ,R,r,ht,q⟩:=hh
 refine⟨B,_,τ,_,r,ht,fun x v H1 e1 i1 f1 h1=>?_⟩
 refine⟨B,_,τ,_,r.mono e1,h1,fun y u H2 e2 i2 f2 h2=>?_⟩
 obtain⟨xs,rfl,h2⟩:=Bx h2
 cases y with
 |l _=>exact h2.elim
 |r _=>exact h2.elim
 |d y =>
 cases y with
 |int i =>
  obtain⟨hl,c,hc,h2⟩:=h2
  exact⟨xs,i,c,Is.str_inv i1,Is.int_inv i2,qAE hl ∅,hc,q (.d _) _ _ (e1.trans e2) (Is.str _) Bp h2⟩
 |_=>exact h2.elim⟩
end
end L3
namespace CH
open PySem PySem.Builtin.Str NumText
def joinC (c:Nat):List (List Nat)→List Nat
 |[]=>[]
 |[x]=>x
 |x::y::r=>x++c::joinC c (y::r)
theorem MZ {c:Nat}:∀{ps:List (List Nat)},ps≠[]→(∀p∈ps,c∉p)→cutAt c (joinC c ps)=ps
 |[],h,_=>absurd rfl h
 |[x],_,h=>cut_no (h x (qAt ..))
 |x::y::r,_,h=>by
  rw[joinC,Il (h x (qAt ..)),MZ (by simp) fun p hp=>h p (qAi _ hp)]
theorem join_is {c:Nat}:∀ls:List (List Nat),Str.join ⟨#[c]⟩ (ls.map mkS)=mkS (joinC c ls)
 |[]=>rfl
 |[x]=>rfl
 |x::y::r=>by
  have:=join_is (c:=c) (y::r)
  show mkS x ++ ⟨#[c]⟩++Str.join ⟨#[c]⟩ ((y::r).map mkS)=_
  rw[this,PB,Ao,Ao,joinC,qBZ]
  rfl
theorem join_len {c:Nat}:∀ls:List (List Nat),(joinC c ls).length≤(ls.map (·.length)).sum+ls.length
 |[]=>qAw _
 |[x]=>by simp[joinC]
 |x::y::r=>by
  have:=join_len (c:=c) (y::r)
  rw[joinC]
  simp only[qAa,qAd,qA8,List.sum_cons] at this ⊢
  omega
theorem Nc {c:Nat}:∀{ls:List (List Nat)}{d:Nat},d∈joinC c ls→d=c∨∃p∈ls,d∈p
 |[],_,h=>by cases h
 |[x],d,h=>.inr ⟨x,qAt ..,h⟩
 |x::y::r,d,h=>by
  rw[joinC] at h
  rcases qAB.mp h with z|z
  ·exact .inr ⟨x,qAt ..,z⟩
  ·rcases qAq.mp z with z|z
   ·exact .inl z
   ·rcases Nc z with w|⟨p,hp,hd⟩
    ·exact .inl w
    ·exact .inr ⟨p,qAi _ hp,hd⟩
theorem Eo (l:List Nat):∀(m a:Nat),a+m≤l.length→(((List.range m).map fun j=>a+j).filterMap fun i=>l[i]?)=(l.drop a).take m
 |0,a,_=>by simp
 |m+1,a,h=>by
  have ih:=Eo l m a ()
  rw[List.range_succ,qA9,qB3,ih]
  have hl:a+m<l.length:=()
  rw[qBm]
  simp[qCk,qAc hl]
end CH
namespace CH
open PySem PySem.Builtin.Str NumText
theorem Ee (l:List Nat)(lo hi:Option Int)(a m:Nat)(h:a+m≤l.length)(e:strSliceIndices lo hi 1 l.length=(List.range m).map fun j=>a+j):Txt.slice (mkS l) lo hi=mkS ((l.drop a).take m):=by
 unfold Txt.slice
 rw[mkS_len,e]
 split
 ·rename_i z
  have hm:m=l.length:=by simpa using z
  have ha:a=0:=()
  subst ha hm
  rw[qBW,qCu]
 ·have:(fun i:Nat=>(mkS l).cps[i]?)=fun i:Nat=>l[i]? := by
   funext i
   show l.toArray[i]? = l[i]?
   simp
  show(⟨(List.filterMap (fun i:Nat=>(mkS l).cps[i]?) ((List.range m).map fun j=>a+j)).toArray⟩:Str)=_
  rw[this,Eo l m a h]
  rfl
theorem KG {a b:Nat}:sliceRange ((a:Nat):Int) ((b:Nat):Int) 1=(List.range (b-a)).map fun j=>a+j:=by
 unfold sliceRange
 have e:(if (1:Int)>0 then (if ((a:Nat):Int)<((b:Nat):Int) then (((b:Nat):Int)-((a:Nat):Int)+1-1)/1 else 0) else (if ((a:Nat):Int)>((b:Nat):Int) then (((a:Nat):Int)-((b:Nat):Int)-1-1)/(-1) else 0)).toNat=b-a:=by
  rw[if_pos ∅]
  split<;>omega
 simp only[e]
 refine qBM fun k _=>?_
 omega
theorem Bc (l:List Nat)(k:Nat):Txt.slice (mkS l) none (some (k:Int))=mkS (l.take k):=by
 have h:=Ee l none (some (k:Int)) 0 (min k l.length) () (by
  have:=@KG 0 (min k l.length)
  unfold strSliceIndices
  simp only[show(1:Int)>0 from ∅,if_true]
  have e:max 0 (min (if (k:Int)<0 then (k:Int)+(l.length:Int) else (k:Int)) (l.length:Int))=((min k l.length:Nat):Int):=by
   rw[if_neg ()];omega
  rw[e]
  exact this)
 rw[h,qBW]
 congr 1
 rw[List.take_eq_take_iff]
 omega
theorem AK (l:List Nat)(k:Nat):Txt.slice (mkS l) (some (k:Int)) none=mkS (l.drop k):=by
 have h:=Ee l (some (k:Int)) none (min k l.length) (l.length-min k l.length) () (by
  have:=@KG (min k l.length) l.length
  unfold strSliceIndices
  simp only[show(1:Int)>0 from ∅,if_true]
  have e:max 0 (min (if (k:Int)<0 then (k:Int)+(l.length:Int) else (k:Int)) (l.length:Int))=((min k l.length:Nat):Int):=by
   rw[if_neg ()];omega
  rw[e]
  exact this)
 rw[h]
 congr 1
 rw[qA5 (by rw[qAz];omega)]
 by_cases c:k≤l.length
 ·rw[Nat.min_eq_left c]
 ·rw[qAJ (),qAJ ()]
theorem starts_one (l:List Nat)(c:Nat):(decide (0+(⟨#[c]⟩:Str).length≤(mkS l).length)&&subAt (mkS l) ⟨#[c]⟩ 0)=decide (l.head? = some c):=by
 have h:=StrLaws.subAt_one (mkS l) c 0
 rw[mkS_list] at h
 rw[qAW,qAF,decide_eq_true_eq,decide_eq_true_eq,h,List.head?_eq_getElem?]
end CH
namespace L3
open PySem PySem.Spec PyProof.Rows L2 PySem.Builtin PySem.Builtin.Str
section
variable {X:Cx}{e a b c o:Expr}{te ta tb tc to:TE3}{pos:Pos}{es:List Expr}{tr:TA3}
theorem Rk:SlR X (fun x lo hi H Q=>∃y,x=.str y∧y.length≤1000000∧Q (.str (Txt.slice y lo hi)) H):=by
 intro pins s σ H x v vl vu lo hi sl Q I rx hs pl pu h
 obtain⟨y,rfl,hl,q⟩:=h
 obtain⟨t,rfl⟩:=rx
 have hz:∀l u,(Txt.slice y l u).length≤sizeLine:=fun l u=>qAE (Txt.slice_le y l u) (qAE hl ∅)
 refine⟨"str",_,F.slot_str_getitem.lookup,typeIs_str _ _ _,?_⟩
 have fin:∀(t':Tok)(k:Tok),EP X pins σ Q (.str (Txt.slice y lo hi) t') { s with toks:=k }:=fun t' k=>⟨.str _,H,I.tok k,⟨_,rfl⟩,q⟩
 cases pl with
 |none=>cases pu with
  |none=>exact wpAny_getItem_str_slice (l:=none) (u:=none) (st:=none) hs rfl (post_val_or_str ⟨hz _ _,fin⟩)
  |int j u=>exact wpAny_getItem_str_slice (l:=none) (u:=some (j,u)) (st:=none) hs rfl (post_val_or_str ⟨hz _ _,fin⟩)
 |int i u=>cases pu with
  |none=>exact wpAny_getItem_str_slice (l:=some (i,u)) (u:=none) (st:=none) hs rfl (post_val_or_str ⟨hz _ _,fin⟩)
  |int j u'=>exact wpAny_getItem_str_slice (l:=some (i,u)) (u:=some (j,u')) (st:=none) hs rfl (post_val_or_str ⟨hz _ _,fin⟩)
theorem Lz:MtR X "str.startswith" (fun x xs H Q=>∃(l:List Nat)(c:Nat),x=.str (CH.mkS l)∧xs=[.str ⟨#[c]⟩]∧Q (.bl (decide (l.head? = some c))) H):=by
 intro pins s σ H x xs v us Q I rx rs h
 obtain⟨l,c,rfl,rfl,q⟩:=h
 obtain⟨t,rfl⟩:=rx
 obtain⟨u,rfl,t',rfl⟩:=Bd rs
 refine PySem.call_meets F.slot_str_startswith (typeIs_str _ _ _) F.entry_str_startswith (F.args_str_startswith_2 _ _) (gives_str_startswith (CH.mkS l) ⟨#[c]⟩ t t').meets ?_
 refine⟨.bl _,H,I,?_,q⟩
 show Value.bool _=_
 rw[←CH.starts_one]
theorem Dv:∀{ys:List Str}{its:List Value},AA (ys.map V.str) its→∃l:List (Str×Tok),its=strValues l∧l.map (·.1)=ys
 |[],its,h=>by cases h;exact⟨[],rfl,rfl⟩
 |y::r,its,h=>by
  cases h with
  |cons h1 h2 =>
   obtain⟨l,e1,e2⟩:=Dv h2
   obtain⟨t,rfl⟩:=h1
   exact⟨(y,t)::l,by rw[e1];rfl,by rw[←e2];rfl⟩
theorem P8:MtR X "str.join" (fun x xs H Q=>∃(c:Nat)(p:Addr)(ls:List (List Nat)),x=.str ⟨#[c]⟩∧xs=[.ref p]∧SqL X.K H p ((ls.map CH.mkS).map V.str)∧(ls.map (·.length)).sum+ls.length≤1000000∧Q (.str (CH.mkS (CH.joinC c ls))) H):=by
 intro pins s σ H x xs v us Q I rx rs h
 obtain⟨c,p,ls,rfl,rfl,hq,hl,q⟩:=h
 obtain⟨t,rfl⟩:=rx
 obtain⟨u,rfl,r1⟩:=Bd rs
 cases r1
 obtain⟨its,rv,pl,hz⟩:=I.list hq
 obtain⟨l,rfl,el⟩:=Dv rv
 have hs:sizeLine=16777216:=sizeLine_eq
 have e0:(ls.map CH.mkS).map (·.length)=ls.map (·.length):=by
  rw[qBr]
  exact qBM fun x _=>CH.mkS_len x
 have et:Txt.join ⟨#[c]⟩ (l.map (·.1))=CH.mkS (CH.joinC c ls):=by
  rw[el,←CH.join_is]
  exact StrLaws.glued_eq_join _ _
 refine PySem.call_meets F.slot_str_join (typeIs_str _ _ _) F.entry_str_join (F.args_str_join_2 _ _) (meets_str_join_list ⟨#[c]⟩ t p l ?_) ⟨pl.isList,post_join l ⟨?_,fun t' k=>?_⟩⟩
 ·rw[el]
  have:=StrLaws.joinTotal ⟨#[c]⟩ (ls.map CH.mkS)
  unfold tooLong
  rw[this,e0,qAf,show(⟨#[c]⟩:Str).length=1 from rfl]
  exact decide_eq_false ()
 ·rw[et,CH.mkS_len]
  have:=CH.join_len (c:=c) ls
  omega
 ·rw[et]
  exact⟨.str _,H,I.tok k,⟨_,rfl⟩,q⟩
def ZA (te:TE3)(lo hi:TO3):TE3:=fun τ R=>te τ fun x=>lo τ fun l=>hi τ fun u=>tS x fun y=>y.length≤1000000∧R (.d (.str (Txt.slice y l u)))
theorem AO {lo hi:Option Expr}{tl th:TO3}{p2:Pos} (he:PE3 X e te) (hl:PO3 X lo tl) (hh:PO3 X hi th):PE3 X (.Subscript e (.Slice lo hi none p2) pos) (ZA te tl th) :=
 ⟨Al (IT Rk he.out hl.out hh.out) fun σ H Q hh=>by
  obtain⟨B,z,τ,R,r,ht,q⟩:=hh
  refine⟨B,z,τ,_,r,ht,fun x v q1 e1 i1 f1 h1=>?_⟩
  refine⟨B,_,τ,_,r.mono e1,h1,fun l q2 e2 h2=>?_⟩
  refine⟨B,_,τ,_,(r.mono e1).mono e2,h2,fun u q3 e3 h3=>?_⟩
  obtain⟨y,rfl,hy,h3⟩:=Bx h3
  exact⟨y,Is.str_inv i1,hy,q (.d _) _ q3 (e1.trans (e2.trans e3)) (Is.str _) Bp h3⟩⟩
def Zl (to te:TE3):TE3:=fun τ R=>to τ fun x=>tS x fun y=>te τ fun z=>tS z fun w=>∃(l:List Nat)(c:Nat),y=CH.mkS l∧w=⟨#[c]⟩∧R (.d (.bl (decide (l.head? = some c))))
theorem Zn {ap cp:Pos} (ho:PE3 X o to) (he:PE3 X e te) (hbase:attributeBase o "startswith" X.env (eval o X.env)=eval o X.env:=by rfl)
 (hfew:((backTo cp (starEach [e] X.env)).all (fun x=>!x.1)&&(backToKw cp (keywordEach [] X.env)).all (fun x=>x.1.isSome)&&decide ([e].length+([]:List Keyword).length+(if ([]:List Keyword).isEmpty then 0 else 1)<30))=true:=by rfl)
 (hline:(ap.endLine==cp.line)=true:=by rfl) (hs:starEach [e] X.env=(false,eval e X.env)::starEach [] X.env:=by rfl) (hplain:(backTo cp (starEach [] X.env)).any (·.1)=false:=by rfl) :
 PE3 X (.Call (.Attribute o "startswith" ap) [e] [] cp) (Zl to te) :=
 ⟨Al (Ie qA6 PySem.F.slot_str_startswith PySem.F.type_str_startswith Lz ho.out (Az he.out A5 hs) hbase hfew hline hs hplain) fun σ H Q hh=>by
  obtain⟨B,z,τ,R,r,ht,q⟩:=hh
  refine⟨B,_,τ,_,r,ht,fun x v H1 e1 i1 f1 h1=>?_⟩
  obtain⟨y,rfl,h1⟩:=Bx h1
  cases Is.str_inv i1
  refine⟨rfl,B,_,τ,_,r.mono e1,h1,fun s u H2 e2 i2 f2 h2=>?_⟩
  obtain⟨w,rfl,l,c,rfl,rfl,h3⟩:=Bx h2
  cases Is.str_inv i2
  exact⟨l,c,rfl,rfl,q (.d _) _ H2 (e1.trans e2) (Is.bl _) Bp h3⟩⟩
theorem Ep {K:PySem.W.Frag}{H:Hp}{vs:List V}{l:List (List Nat)} (h:Iss K H vs (l.map fun p=>D.str (CH.mkS p))):vs=(l.map CH.mkS).map V.str:=by
 refine qA1 fun i=>?_
 have hl:=h.1
 rw[qAf] at hl
 rw[qBr,qAl]
 cases e:l[i]? with
 |none =>
  have:=qAs.mp e
  exact qAs.mpr ()
 |some p =>
  have hi:=(qAj.mp e).1
  have hv:vs[i]? = some (vs[i]' ()):=qAc ()
  have:=h.2 i _ _ hv (by rw[qAl,e];rfl)
  rw[hv,Is.str_inv this]
  rfl
def Vn (to te:TE3):TE3:=fun τ R=>to τ fun x=>tS x fun y=>te τ fun z=>∃(ls:List (List Nat))(c:Nat),y=⟨#[c]⟩∧items z=some (ls.map fun p=>D.str (CH.mkS p))∧z≠.d (.tup (ls.map fun p=>D.str (CH.mkS p)))∧(ls.map (·.length)).sum+ls.length≤1000000∧R (.d (.str (CH.mkS (CH.joinC c ls))))
theorem WN {ap cp:Pos} (ho:PE3 X o to) (he:PE3 X e te) (hbase:attributeBase o "join" X.env (eval o X.env)=eval o X.env:=by rfl)
 (hfew:((backTo cp (starEach [e] X.env)).all (fun x=>!x.1)&&(backToKw cp (keywordEach [] X.env)).all (fun x=>x.1.isSome)&&decide ([e].length+([]:List Keyword).length+(if ([]:List Keyword).isEmpty then 0 else 1)<30))=true:=by rfl)
 (hline:(ap.endLine==cp.line)=true:=by rfl) (hs:starEach [e] X.env=(false,eval e X.env)::starEach [] X.env:=by rfl) (hplain:(backTo cp (starEach [] X.env)).any (·.1)=false:=by rfl) :
 PE3 X (.Call (.Attribute o "join" ap) [e] [] cp) (Vn to te) :=
 ⟨Al (Ie qA6 qCJ qCK P8 ho.out (Az he.out A5 hs) hbase hfew hline hs hplain) fun σ H Q hh=>by
  obtain⟨B,z,τ,R,r,ht,q⟩:=hh
  refine⟨B,_,τ,_,r,ht,fun x v H1 e1 i1 f1 h1=>?_⟩
  obtain⟨y,rfl,h1⟩:=Bx h1
  cases Is.str_inv i1
  refine⟨rfl,B,_,τ,_,r.mono e1,h1,fun s u H2 e2 i2 f2 h2=>?_⟩
  obtain⟨ls,c,rfl,hx,hne,hl,h2⟩:=h2
  obtain⟨a,vs,rfl,g2,g1⟩:=Hf i2 e2.sub hx
  have ev:=Ep g2
  subst ev
  refine⟨c,a,ls,rfl,rfl,?_,hl,q (.d _) _ H2 (e1.trans e2) (Is.str _) Bp h2⟩
  rcases g1 with g1|g1
  ·exact g1
  ·exact absurd g1.2 hne⟩
variable {th:TS3}
def U3 (sp:Sp3)(tr:TA3):TS3:=fun D3 τ=>tr τ fun ss=>sp ss (fun s=>D3.rt s) (fun _=>False)
theorem WV {k:Nat}{f:Str}{ps:List Str}{sp:Sp3}{pf pc pa pt:Pos}{h0:ExceptHandler}{hs:List ExceptHandler} (hst:X.stack=X.env::X.outer) (hf:X.env.frame=some X.env.locals) (hno:∀e s,¬X.xe e s)
 (c:Cal X.prog X.w X.K X.mg X.base (CXU X.prog X.w) k f ps sp) (hr:Be k X.A) (hg:Gl X f) (ha:PA3 X (e::es) tr)
 (hdb:(f==("__debug__":Str))=false:=by decide) (he:starEach (e::es) X.env=(false,eval e X.env)::starEach es X.env:=by exact AI rfl) (hpl:(backTo pc (starEach es X.env)).any (·.1)=false:=by exact A1 rfl) :
 PS3 X (.Try [.Return (some (.Call (.Name f pf) (e::es) [] pc)) pa] (h0::hs) [] [] pt) (U3 sp tr):=by
 refine⟨?_⟩
 obtain⟨fa,fd,F,hmf,hk,hb⟩:=c.ex
 intro pins s σ H D2 I h
 obtain⟨B,z,τ,D3,r,ht,ct⟩:=h
 refine wpAny_Try_except (wpAny_execs_cons (wpAny_Return_some (thn (D5 (Ex:=fun _ _ _=>False) (Q:=D2.rt) F hr hg hmf hk hb ha.out (fun e s z=>(hno e s z).elim) I ?hx ?h hdb he hpl) fun v s1 ⟨y,H1,I1,r1,q1⟩=>?nx)))
 case hx =>
  intro H1 s1 e' s' I1 hcx
  obtain⟨ea,C,a0,B',H',rfl,ho,hbr,fl,hF⟩:=hcx
  exact hF.elim
 case h =>
  refine⟨B,_,τ,_,r,ht,fun ss vs H1 e1 i1 h1=>⟨H1.z,ss,_,_,e1.sub,i1,h1,fun s v H2 e2 i2 f2 h2=>?_,fun y C H2 e2 hy hu=>hu⟩⟩
  exact ct.rt s v H2 (r.ext.trans (e1.trans e2)) i2 (CA r.ext (CA e1 f2)) h2
 case nx =>
  exact⟨y,σ,H1,I1,r1,q1⟩
end
end L3
namespace L3
open PySem PySem.Spec PyProof.Rows L2 PySem.Builtin PySem.Builtin.Str
section
variable {X:Cx}{a e2:Expr}{tA:TT}{t2:TE}{k:Int}{x y z:Str}{j j1 j2 j3:Nat}{pc p2 pb px ap p3 p4 cp pr pos:Pos}
theorem S8 (ha:PT X a tA)(h2:PE X e2 t2)(hN:X.N[j]? = some x)(hv:Vis X.env.scope x)(hyz:(y==z)=false)(hzl:z.length≤10)
 (hm:behindInMarks .Eq (.Constant (.int k) j1 pc)=false:=by rfl)(hd:(x==("__debug__":Str))=false:=by decide)(hcd:(x==("__classdict__":Str))=false:=by decide)
 (hbase:attributeBase (.Name x px) "replace" X.env (eval (.Name x px) X.env)=eval (.Name x px) X.env:=by rfl)
 (hfew:((backTo cp (starEach [.Constant (.str y) j2 p3,.Constant (.str z) j3 p4] X.env)).all (fun x=>!x.1)&&(backToKw cp (keywordEach [] X.env)).all (fun x=>x.1.isSome)&&decide ([Expr.Constant (.str y) j2 p3,.Constant (.str z) j3 p4].length+([]:List Keyword).length+(if ([]:List Keyword).isEmpty then 0 else 1)<30))=true:=by rfl)
 (hline:(ap.endLine==cp.line)=true:=by rfl) :
 PS X (.If (.BoolOp .And [a,.Compare e2 [.Eq] [.Constant (.int k) j1 pc] p2] pb) [.Return (some (.Call (.Attribute (.Name x px) "replace" ap) [.Constant (.str y) j2 p3,.Constant (.str z) j3 p4] [] cp)) pr] [] pos)
  (fun D σ H=>tA σ H fun c H1=>if c=true then t2 σ H1 fun v H2=>∃i,v=.int i∧(if decide (i=k)=true then ∃w,σ[j]? = some (some (.str w))∧w.length≤1000∧D.rt (.str (Txt.replace w y z)) H2 else D.nx σ H2) else D.nx σ H1):=by
 intro pins s σ H D I h
 refine wpAny_If (isTrue_and (thn (ha pins s σ H _ I h) fun c s1 hh=>?_))
 obtain⟨H1,I1,q1⟩:=hh
 cases c with
 |false=>exact wpAny_execs_nil ⟨σ,H1,I1,q1⟩
 |true =>
  rw[if_pos rfl] at q1
  refine isTrue_and (wpAny_isTrue_Compare1 (thn (h2 pins s1 σ H1 _ I1 q1) fun v s2 hh=>?_) hm)
  obtain⟨x',H2,I2,r2,i,rfl,q2⟩:=hh
  obtain⟨t,rfl⟩:=r2
  refine wpAny_Constant_int ?_
  refine eq_int (wpAny_truthy_bool ?_)
  have I3:=I2.tok (s2.toks+1)
  by_cases c:i=k
  ·rw[show(i==k)=true by rw[c];exact beq_self_eq_true k]
   rw[if_pos (decide_eq_true c)] at q2
   obtain⟨w,hw,hl,q⟩:=q2
   refine isTrue_and_nil ?_
   obtain⟨m,hn,hlk⟩:=I3.loc
   obtain⟨u,r,l⟩:=hlk j x (.str w) hN hw hv
   obtain⟨tw,rfl⟩:=r
   have call:∀(s3:Shared),s3={ s2 with toks:=s2.toks+1 }→MethodOn X.prog X.w X.A "replace" cp (.str w tw) (backTo cp (starEach [.Constant (.str y) j2 p3,.Constant (.str z) j3 p4] X.env)) (fun r s'=>SP X pins D (.ret r) s') X.xe s3:=fun s3 e=>by
    subst e
    refine⟨"str","str.replace",qA6,PySem.F.slot_str_replace,PySem.F.type_str_replace,typeIs_str _ _ _,(fun _ e=>nomatch e),?_⟩
    refine Calls.callWith_builtin rfl (Calls.evalArgs_plain ?_)
    refine Calls.spliced_cons (Calls.Constant_str (k:=j2) (pos:=p3) (Calls.spliced_cons (Calls.Constant_str (k:=j3) (pos:=p4) (Calls.spliced_nil ?_))))
    refine PySem.SC.replace (Nat.succ_ne_zero _) (Nat.succ_ne_zero _) (qAo (qB2 _)) hyz ?_ fun t' k'=>?_
    ·have h1:(w.length+1)*z.length≤(w.length+1)*10:=Nat.mul_le_mul_left _ hzl
     omega
    ·exact⟨.str _,σ,H2,I2.tok _,⟨_,rfl⟩,q⟩
   refine wpAny_execs_cons (wpAny_Return_some (wpAny_Call_method_late hbase hfew hline rfl ?_))
   rcases l with⟨hk,hmm⟩|⟨hk,cc,hc,hcell⟩
   ·exact wpAny_Name (wpAny_loadName_local I3.ok.kind hk hn hmm (call _ rfl)) hd
   ·rcases hk with hk|hk
    ·exact wpAny_Name (wpAny_loadName_cell I3.ok.kind hk hc hcell (call _ rfl)) hd
    ·exact wpAny_Name (wpAny_loadName_free I3.ok.kind hk hc hcell (call _ rfl) hcd) hd
  ·rw[show(i==k)=false from beq_eq_false_iff_ne.mpr c]
   rw[if_neg (by simpa using c)] at q2
   exact wpAny_execs_nil ⟨σ,H2,I3,q2⟩
end
end L3
namespace L3
open PySem PySem.Spec PyProof.Rows L2 PySem.Builtin PySem.Builtin.Str
section
variable {X:Cx}{tA:TT3}{t2 te to:TE3}{k:Int}{y z:Str}{j:Nat}{st:Stmt}{o e:Expr}
def Rm (tA:TT3)(t2:TE3)(k:Int)(j:Nat)(y z:Str):TS3:=fun D3 τ=>tA τ fun c=>if c=true then t2 τ fun s=>match s with
 |.d (.int i)=>if decide (i=k)=true then (match τ[j]? with
  |some (some (.d (.str w)))=>w.length≤1000∧D3.rt (.d (.str (Txt.replace w y z)))
  |_=>False) else D3.nx τ
 |_=>False
 else D3.nx τ
theorem Vk (h:PS X st (fun D σ H=>FT X tA σ H fun c H1=>if c=true then FE X t2 σ H1 fun v H2=>∃i,v=.int i∧(if decide (i=k)=true then ∃w,σ[j]? = some (some (.str w))∧w.length≤1000∧D.rt (.str (Txt.replace w y z)) H2 else D.nx σ H2) else D.nx σ H1)) :
 PS3 X st (Rm tA t2 k j y z):=⟨AF h fun D2 σ H hh=>by
 obtain⟨B,zz,τ,D3,r,ht,c⟩:=hh
 refine⟨B,_,τ,_,r,ht,fun b q1 e1 h1=>?_⟩
 cases b with
 |false =>
  rw[if_neg qAe] at h1 ⊢
  exact c.nx _ _ _ (r.mono e1) h1
 |true =>
  rw[if_pos rfl] at h1 ⊢
  refine⟨B,_,τ,_,r.mono e1,h1,fun s v q2 e2 i2 f2 h2=>?_⟩
  cases s with
  |l _=>exact h2.elim
  |r _=>exact h2.elim
  |d s =>
  cases s with
  |int i =>
   refine⟨i,Is.int_inv i2,?_⟩
   have h3:if decide (i=k)=true then (match τ[j]? with
    |some (some (.d (.str w)))=>w.length≤1000∧D3.rt (.d (.str (Txt.replace w y z)))
    |_=>False) else D3.nx τ:=h2
   by_cases ck:i=k
   ·rw[decide_eq_true ck,if_pos rfl] at h3 ⊢
    split at h3
    ·rename_i w hw
     obtain⟨v',hv1,hv2⟩:=r.val j _ hw
     cases Is.str_inv hv2
     exact⟨w,hv1,h3.1,c.rt (.d _) _ q2 (r.ext.trans (e1.trans e2)) (Is.str _) Bp h3.2⟩
    ·exact h3.elim
   ·rw[decide_eq_false ck,if_neg qAe] at h3 ⊢
    exact c.nx _ _ _ (r.mono (e1.trans e2)) h3
  |_=>exact h2.elim⟩
theorem IH (x:Str)(c:Nat):∀(l:List Nat)(st:Array Nat×Nat),1≤st.1.size→(forIn (m:=Id) l st (StrLaws.occBody x ⟨#[c]⟩ x.length 1)).run.fst=st.1
 |[],st,_=>rfl
 |i::r,st,h=>by
  rw[qBv]
  unfold StrLaws.occBody
  rw[if_neg (fun z=>by have:=z.1.1.1;omega)]
  exact IH x c r (st.1,st.2) h
theorem Pf (x:Str)(c:Nat):∀(m k f:Nat),k+m=x.length+1→f≤k→(forIn (m:=Id) (List.range' k m) ((#[]:Array Nat),f) (StrLaws.occBody x ⟨#[c]⟩ x.length 1)).run.fst.toList=(CH.posAt c k (x.cps.toList.drop k)).take 1:=by
 have hn:x.cps.toList.length=x.length:=Array.length_toList
 intro m
 induction m with
 |zero =>
  intro k f h1 _
  have:x.cps.toList.drop k=[]:=qAJ ()
  rw[this]
  rfl
 |succ m ih =>
  intro k f h1 h2
  rw[List.range'_succ,qBv]
  unfold StrLaws.occBody
  have hk:=StrLaws.subAt_one x c k
  by_cases e:x.cps.toList[k]? = some c
  ·have hc:=hk.mpr e
   rw[if_pos ⟨⟨⟨Nat.one_pos,h2⟩,hc.1⟩,hc.2⟩]
   have hlt:k<x.cps.toList.length:=(qAj.mp e).1
   have hd:x.cps.toList.drop k=c::x.cps.toList.drop (k+1):=by
    rw[qAS hlt]
    congr 1
    exact(qAj.mp e).2
   have:=IH x c (List.range' (k+1) m) (#[k],k+(⟨#[c]⟩:Str).length) (qAg _)
   rw[hd]
   show(forIn (m:=Id) (List.range' (k+1) m) (#[k],k+(⟨#[c]⟩:Str).length) (StrLaws.occBody x ⟨#[c]⟩ x.length 1)).run.fst.toList=_
   rw[this,CH.posAt,if_pos rfl]
   rfl
  ·rw[if_neg fun z=>e (hk.mp ⟨z.1.2,z.2⟩)]
   have:=ih (k+1) f () ()
   show(forIn (m:=Id) (List.range' (k+1) m) (#[],f) (StrLaws.occBody x ⟨#[c]⟩ x.length 1)).run.fst.toList=_
   rw[this]
   by_cases hlt:k<x.cps.toList.length
   ·rw[qAS hlt]
    have hne:x.cps.toList[k]≠c:=fun z=>e (by rw[qAc hlt,z])
    rw[CH.posAt,if_neg hne]
   ·rw[qAJ (),qAJ ()]
    rfl
theorem Ls {c:Nat}:∀{l:List Nat}{k i:Nat}{r:List Nat},CH.posAt c k l=i::r→∃p q,l=p++c::q∧c∉p∧i=k+p.length
 |[],_,_,_,h=>by cases h
 |d::s,k,i,r,h=>by
  rw[CH.posAt] at h
  split at h
  ·rename_i e
   cases h
   exact⟨[],s,by rw[e];rfl,by simp,by simp⟩
  ·rename_i e
   obtain⟨p,q,h1,h2,h3⟩:=Ls h
   refine⟨d::p,q,by rw[h1];rfl,fun z=>?_,by rw[h3,qAd];omega⟩
   rcases qAq.mp z with z|z
   ·exact e z.symm
   ·exact h2 z
theorem Pd:MtR X "str.partition" (fun x xs H Q=>∃(l:List Nat)(c:Nat),x=.str (CH.mkS l)∧xs=[.str ⟨#[c]⟩]∧l.length≤100000∧(c∉l→∀p,H p=none→Q (.ref p) (upd H p (.tup [.str (CH.mkS l),.str (CH.mkS []),.str (CH.mkS [])]))) ∧
 ∀a b,l=a++c::b→c∉a→∀p,H p=none→Q (.ref p) (upd H p (.tup [.str (CH.mkS a),.str (CH.mkS [c]),.str (CH.mkS b)]))):=by
 intro pins s σ H x xs v us Q I rx rs h
 obtain⟨l,c,rfl,rfl,hl,q1,q2⟩:=h
 obtain⟨t,rfl⟩:=rx
 obtain⟨u,rfl,t',rfl⟩:=Bd rs
 have hs:sizeLine=16777216:=sizeLine_eq
 have hf:H s.heap.objs.size=none:=I.hok.fresh (qAg _)
 have fin:∀(a b d:Str)(t1 t2 t3 k:Tok),(∀p,H p=none→Q (.ref p) (upd H p (.tup [.str a,.str b,.str d])))→EP X pins σ Q (.ref s.heap.objs.size) { s with toks:=k,heap:=s.heap.push { cls:=.type "tuple",data:=.seq [.str a t1,.str b t2,.str d t3].toArray } }:=fun a b d t1 t2 t3 k q=>by
  have rv:AA [V.str a,V.str b,V.str d] [.str a t1,.str b t2,.str d t3]:=.cons ⟨_,rfl⟩ (.cons ⟨_,rfl⟩ (.cons ⟨_,rfl⟩ .nil))
  exact⟨.ref s.heap.objs.size,_,I.laid (t':=k) (fun b o e=>qAb _ e) (qAg _) (show Bj X.prog X.w _ _ _ (.tup [V.str a,V.str b,V.str d]) from ⟨(show 3≤sizeLine from ∅),_,rv,IsTup.new _ _⟩),rfl,q _ hf⟩
 have oc:occurrences (CH.mkS l) ⟨#[c]⟩ 0 (CH.mkS l).length 1=(CH.posAt c 0 l).take 1:=by
  rw[StrLaws.occ_eq]
  have:=Pf (CH.mkS l) c ((CH.mkS l).length+1) 0 0 () (qAg _)
  rw[qBW,CH.mkS_list] at this
  exact this
 refine PySem.call_meets F.slot_str_partition (typeIs_str _ _ _) F.entry_str_partition (F.args_str_partition_2 _ _) (meets_str_partition (CH.mkS l) ⟨#[c]⟩ t t' rfl (by rw[CH.mkS_len];omega)) ?_
 rw[oc]
 cases hp:CH.posAt c 0 l with
 |nil=>exact fin (CH.mkS l) Str.empty Str.empty _ _ _ _ (q1 (CH.pos_nil hp))
 |cons i r =>
  obtain⟨a,b,e,ha,hi⟩:=Ls hp
  have e1:strSub (CH.mkS l) 0 i=CH.mkS a:=by
   rw[CH.sub_is _ _ _ (by rw[CH.mkS_len,hi,e,qAa,qAd];omega),CH.mkS_list,hi,e]
   congr 1
   simp
  have e2:strSub (CH.mkS l) (i+(⟨#[c]⟩:Str).length) (CH.mkS l).length=CH.mkS b:=by
   rw[CH.sub_is _ _ _ (qAg _),CH.mkS_list,CH.mkS_len,hi,e]
   congr 1
   show((a++c::b).drop (0+a.length+1)).take _=b
   have one:(⟨#[c]⟩:Str).length=1:=rfl
   rw[show 0+a.length+1=a.length+1 from (),List.drop_append,qAJ (),qBP,show a.length+1-a.length=1 from ()]
   show b.take _=b
   rw[qA5]
   rw[one,qAa,qAd]
   omega
  show EP X pins σ Q (.ref s.heap.objs.size) { s with toks:=s.toks+1+1,heap:=s.heap.push { cls:=.type "tuple",data:=.seq [.str (strSub (CH.mkS l) 0 i) s.toks,.str ⟨#[c]⟩ t',.str (strSub (CH.mkS l) (i+(⟨#[c]⟩:Str).length) (CH.mkS l).length) (s.toks+1)].toArray } }
  rw[e1,e2]
  exact fin (CH.mkS a) ⟨#[c]⟩ (CH.mkS b) _ _ _ _ (q2 a b e ha)
def VL (to te:TE3):TE3:=fun τ R=>to τ fun x=>tS x fun y=>te τ fun z=>tS z fun sep=>∃(l:List Nat)(c:Nat),y=CH.mkS l∧sep=⟨#[c]⟩∧l.length≤100000∧(c∉l→R (.d (.tup [.str (CH.mkS l),.str (CH.mkS []),.str (CH.mkS [])]))) ∧
 ∀a b,l=a++c::b→c∉a→R (.d (.tup [.str (CH.mkS a),.str (CH.mkS [c]),.str (CH.mkS b)]))
theorem Yc {K:PySem.W.Frag}{H:Hp} (a b d:Str):Iss K H [V.str a,V.str b,V.str d] [D.str a,D.str b,D.str d]:=by
 refine⟨rfl,fun i v x h1 h2=>?_⟩
 match i,h1,h2 with
 |0,h1,h2=>cases h1;cases h2;exact .str _
 |1,h1,h2=>cases h1;cases h2;exact .str _
 |2,h1,h2=>cases h1;cases h2;exact .str _
theorem CB {ap cp:Pos} (ho:PE3 X o to) (he:PE3 X e te) (hbase:attributeBase o "partition" X.env (eval o X.env)=eval o X.env:=by rfl)
 (hfew:((backTo cp (starEach [e] X.env)).all (fun x=>!x.1)&&(backToKw cp (keywordEach [] X.env)).all (fun x=>x.1.isSome)&&decide ([e].length+([]:List Keyword).length+(if ([]:List Keyword).isEmpty then 0 else 1)<30))=true:=by rfl)
 (hline:(ap.endLine==cp.line)=true:=by rfl) (hs:starEach [e] X.env=(false,eval e X.env)::starEach [] X.env:=by rfl) (hplain:(backTo cp (starEach [] X.env)).any (·.1)=false:=by rfl) :
 PE3 X (.Call (.Attribute o "partition" ap) [e] [] cp) (VL to te) :=
 ⟨Al (Ie qA6 PySem.F.slot_str_partition PySem.F.type_str_partition Pd ho.out (Az he.out A5 hs) hbase hfew hline hs hplain) fun σ H Q hh=>by
  obtain⟨B,z,τ,R,r,ht,q⟩:=hh
  refine⟨B,_,τ,_,r,ht,fun x v H1 e1 i1 f1 h1=>?_⟩
  obtain⟨y,rfl,h1⟩:=Bx h1
  cases Is.str_inv i1
  refine⟨rfl,B,_,τ,_,r.mono e1,h1,fun s u H2 e2 i2 f2 h2=>?_⟩
  obtain⟨w,rfl,l,c,rfl,rfl,hl,h3,h4⟩:=Bx h2
  cases Is.str_inv i2
  have tup:∀(a b d:Str),R (.d (.tup [.str a,.str b,.str d]))→∀p,H2.h p=none→Q (.ref p) (upd H2.h p (.tup [.str a,.str b,.str d])):=fun a b d hR p hp=>by
   have jj:=(Yc (K:=X.K) (H:=H2.z) a b d).mono (AY (e2.sub.free hp) (.tup [V.str a,V.str b,V.str d]))
   exact q (.d _) _ _ ((e1.trans e2).trans (Ext.lay e2.sub hp (.tup [V.str a,V.str b,V.str d]))) (Is.tup (SqT.of Ac) jj.1 jj.2) Bp hR
  exact⟨l,c,rfl,rfl,hl,fun z=>tup _ _ _ (h3 z),fun a b e ha=>tup _ _ _ (h4 a b e ha)⟩⟩
end
end L3
namespace L3
open PySem PySem.Spec PyProof.Rows L2
section
variable {X:Cx}{e a b:Expr}{te ta tb:TE3}{pos:Pos}
def Vj (X:Cx):R2:=fun x y H Q=>∃l b xs zs,x=.ref l∧y=.ref b∧SqL X.K H l xs∧SqL X.K H b zs∧xs.length+zs.length≤sizeLine∧∀p,H p=none→Q (.ref p) (upd H p (.lst (xs++zs)))
theorem Po:OpR X (binaryOp .Add) (Vj X):=by
 intro pins s σ H x y v u Q I rx ry h
 obtain⟨l,b,xs,zs,rfl,rfl,hH,hB,hz,q⟩:=h
 cases rx
 cases ry
 obtain⟨its,r,p1,_⟩:=I.list hH
 obtain⟨its2,r2,p2,_⟩:=I.list hB
 have e1:=r.length
 have e2:=r2.length
 obtain⟨⟨cls,dd,data,sl⟩,ho,hc,n,hd⟩:=p1.isList
 obtain⟨⟨cls2,dd2,data2,sl2⟩,ho2,hc2,n2,hd2⟩:=p2.isList
 simp only at hc hd hc2 hd2
 subst hc hd hc2 hd2
 have e:its.toArray++its2.toArray=(its++its2).toArray:=by simp
 refine concat_meets ⟨_,ho,rfl⟩ ⟨_,ho2,rfl⟩ noFill_list_add seq_list_add PySem.F.slot_list_add PySem.F.entry_list_add (PySem.F.args_list_add_2 _ _) (list_addW l b its.toArray its2.toArray n n2 dd dd2 sl sl2 (by simp;omega)) ⟨ho,ho2,?_⟩
 rw[e]
 exact⟨.ref _,_,I.lnew (t':=s.toks) (r.append r2) (by rw[qAa];omega),rfl,q _ I.fresh⟩
def UW (ta tb:TE3):TE3:=fun τ R=>ta τ fun x=>tb τ fun y=>match KY x,KY y with
 |some xs,some ys=>xs.length+ys.length≤100000∧R (.l (xs++ys))
 |_,_=>False
theorem SG (ha:PE3 X a ta)(hb:PE3 X b tb):PE3 X (.BinOp a .Add b pos) (UW ta tb) :=
 ⟨Al (NM (Pa Po ha.out hb.out)) fun σ H Q hh=>by
  obtain⟨B,z,τ,R,r,ht,q⟩:=hh
  refine⟨B,_,τ,_,r,ht,fun x v H1 e1 i1 f1 h1=>?_⟩
  refine⟨B,_,τ,_,r.mono e1,h1,fun y u H2 e2 i2 f2 h2=>?_⟩
  have sz:(100000:Nat)<sizeLine:=∅
  split at h2
  ·rename_i xs ys hx hy
   obtain⟨a,vs,rfl,g1,g2⟩:=Ck (IsS.mono e2 i1) e2.sub hx
   obtain⟨b,ws,rfl,g1',g2'⟩:=Ck i2 e2.sub hy
   refine⟨a,b,vs,ws,rfl,rfl,g2,g2',by rw[g1.1,g1'.1];omega,fun p hp hk=>?_⟩
   exact q (.l (xs++ys)) _ ⟨_,H2.z⟩ ((e1.trans e2).trans (Ext.own e2.sub hp _)) ⟨p,vs++ws,rfl,Ac,g1.append g1'⟩ (fun zs c _ h3=>by
    cases h3
    exact⟨(e1.trans e2).hh.free hp,hk p _ Ac,e2.sub.free hp⟩) h2.2
  ·exact h2.elim⟩
end
end L3
namespace L3
open PySem L2
section
variable {X:Cx}
def KP (X:Cx)(b:Bool):List V→Hp→VK→Prop:=fun xs H Q=>∃p ns,xs=[.ref p]∧SqL X.K H p (ns.map V.int)∧ns.length<64∧∀ns':List Int,ns'.Perm ns→PyProof.Rows.Ordered b ns'→∀l,H l=none→Q (.ref l) (upd H l (.lst (ns'.map V.int)))
theorem X8 {ns:List Int} (h:List.Pairwise (fun x y=>x≤y) ns):PyProof.Rows.Ordered false ns:=by
 unfold PyProof.Rows.Ordered
 rw[if_neg ∅]
 exact h
theorem JJ:A7 X (.builtin "sorted") (KP X false):=by
 intro pins s σ H xs us Q I r h
 obtain⟨p,ns,rfl,hq,h64,q⟩:=h
 obtain⟨u,rfl,rx⟩:=Bd r
 cases rx
 obtain⟨its,r',pl,hz⟩:=I.list hq
 have hI:=DV r'
 refine qCw pl.isList hI (by rw[FP hI];exact h64) fun out ns' a1 a2 a3=>?_
 exact CU I a1 (by rw[a2.length_eq];rw[qAf] at hz;exact hz) (q ns' a2 (X8 a3))
theorem J5 {p pos kpos:Pos}{e:Expr}{t:TA}{b:Bool}{kj:Nat}{kp:Pos} (hg:Gl X "sorted") (hm:X.mg "sorted"=none) (ha:PA X [e] t)
 (he:starEach [e] X.env=(false,eval e X.env)::starEach [] X.env:=by rfl) :
 PE X (.Call (.Name "sorted" p) [e] [⟨some "reverse",.Constant (.bool b) kj kp,kpos⟩] pos) (tCB (KP X b) t):=by
 intro pins s σ H Q I h
 refine wpAny_Call_Name_kw (B6 I hg hm qA7 ?_ ∅ ∅)
 refine qCx (thn (ha pos pins s σ H _ I h) fun us s1 ⟨vs,H1,I1,r1,q1⟩=>?_) (by rw[he];rfl) (by rw[he];rfl)
 refine thn ((Kd Jy NO:PK X [⟨some "reverse",.Constant (.bool b) kj kp,kpos⟩] _) pos pins s1 σ H1 (fun ws H2=>ws=[V.bl b]∧KP X b vs H2 Q) I1 ⟨rfl,q1⟩) fun ws s2 ⟨zs,H2,I2,rz,ez,q1⟩=>?_
 subst ez
 obtain⟨w,rfl,rw⟩:=Bd rz
 cases rw
 obtain⟨pp,ns,rfl,hq,h64,q⟩:=q1
 obtain⟨u,rfl,rx⟩:=Bd r1
 cases rx
 obtain⟨its,r',pl,hz⟩:=I2.list hq
 have hI:=DV r'
 refine qCg pl.isList hI (by rw[FP hI];exact h64) fun out ns' a1 a2 a3=>?_
 exact CU I2 a1 (by rw[a2.length_eq];rw[qAf] at hz;exact hz) (q ns' a2 a3)
def NV (b:Bool)(te:TE3):TE3:=fun τ R=>te τ fun s=>match KY s with
 |some xs=>∃ns:List Int,xs=ns.map D.int∧ns.length<64∧∀ns':List Int,ns'.Perm ns→PyProof.Rows.Ordered b ns'→R (.l (ns'.map D.int))
 |none=>False
theorem Vs {e:Expr}{te:TE3}{p pos:Pos} (he:PE3 X e te) (hg:Gl X "sorted") (hm:X.mg "sorted"=none) (hs:starEach [e] X.env=(false,eval e X.env)::starEach [] X.env:=by exact AI rfl):PE3 X (.Call (.Name "sorted" p) [e] [] pos) (NV false te) :=
 ⟨Al (NM (Cj JJ hg hm qA7 (Az he.out A5 hs) (he:=hs))) fun σ H Q hh=>by
  obtain⟨B,z,τ,R,r,ht,q⟩:=hh
  exact⟨B,z,τ,_,r,ht,fun s v q1 e1 i1 f1 h1=>by
   split at h1
   ·rename_i xs hx
    obtain⟨ns,rfl,h64,h1⟩:=h1
    obtain⟨a,vs,rfl,g2,g1⟩:=Ck i1 e1.sub hx
    have ev:=DX g2
    subst ev
    refine⟨a,ns,rfl,g1,h64,fun ns' pm po d hd hk=>?_⟩
    exact q (.l (ns'.map D.int)) _ ⟨_,q1.z⟩ (e1.trans (Ext.own e1.sub hd _)) ⟨d,ns'.map V.int,rfl,Ac,DH ns'⟩ (fun ys a _ h2=>by
     cases h2
     exact⟨e1.hh.free hd,hk d _ Ac,e1.sub.free hd⟩) (h1 ns' pm po)
   ·exact h1.elim⟩⟩
theorem TN {e:Expr}{te:TE3}{p pos kpos kp:Pos}{b:Bool}{kj:Nat} (he:PE3 X e te) (hg:Gl X "sorted") (hm:X.mg "sorted"=none) (hs:starEach [e] X.env=(false,eval e X.env)::starEach [] X.env:=by exact AI rfl):PE3 X (.Call (.Name "sorted" p) [e] [⟨some "reverse",.Constant (.bool b) kj kp,kpos⟩] pos) (NV b te) :=
 ⟨Al (NM (J5 hg hm (Az he.out A5 hs) hs)) fun σ H Q hh=>by
  obtain⟨B,z,τ,R,r,ht,q⟩:=hh
  exact⟨B,z,τ,_,r,ht,fun s v q1 e1 i1 f1 h1=>by
   split at h1
   ·rename_i xs hx
    obtain⟨ns,rfl,h64,h1⟩:=h1
    obtain⟨a,vs,rfl,g2,g1⟩:=Ck i1 e1.sub hx
    have ev:=DX g2
    subst ev
    refine⟨a,ns,rfl,g1,h64,fun ns' pm po d hd hk=>?_⟩
    exact q (.l (ns'.map D.int)) _ ⟨_,q1.z⟩ (e1.trans (Ext.own e1.sub hd _)) ⟨d,ns'.map V.int,rfl,Ac,DH ns'⟩ (fun ys a _ h2=>by
     cases h2
     exact⟨e1.hh.free hd,hk d _ Ac,e1.sub.free hd⟩) (h1 ns' pm po)
   ·exact h1.elim⟩⟩
end
section
variable {X:Cx}{e a b c o:Expr}{te ta tb tc to:TE3}{pos:Pos}{es:List Expr}{tr:TA3}
theorem MH {x:Str}{p:Pos}{T:String}{r:List S→(S→Prop)→Prop} (hc:Co X (.type T) r) (hg:Gl X x) (hm:X.mg x=none) (hv:bootBuiltins x=some (.type T)) (ha:PA3 X (e::es) tr) (hn:x≠"__name__":=by decide)
 (hdb:(x==("__debug__":Str))=false:=by decide) (he:starEach (e::es) X.env=(false,eval e X.env)::starEach es X.env:=by exact AI rfl) (hpl:(backTo pos (starEach es X.env)).any (·.1)=false:=by exact A1 rfl) :
 PE3 X (.Call (.Name x p) (e::es) [] pos) (vCB r tr):=⟨Al (Cs hc hg hm hv ha.out hn hdb he hpl) fun σ H Q hh=>by
  obtain⟨B,z,τ,R,r,ht,q⟩:=hh
  exact⟨B,_,τ,_,r,ht,fun ss vs H1 e1 i1 h1=>⟨H1.z,ss,R,e1.sub,i1,h1,fun s v H2 e2 i2 f2 h2=>q s v H2 (e1.trans e2) i2 (CA e1 f2) h2⟩⟩⟩
def SN:List S→(S→Prop)→Prop:=fun ss R=>match ss with
 |[.d (.bl k)]=>R (.d (.int (if k then 1 else 0)))
 |_=>False
theorem RX:Co X (.type "int") SN:=Bm GO fun xs H Q hh=>by
 obtain⟨z,ss,R,hz,ha,h3,q⟩:=hh
 unfold SN at h3
 split at h3
 ·rename_i k
  obtain⟨v,rfl,h⟩:=Ef ha
  cases Is.bl_inv h
  exact .inr ⟨k,rfl,q (.d _) _ ⟨H,z⟩ (Ext.refl hz) (Is.int _) Bp h3⟩
 ·exact h3.elim
end
end L3
namespace L3
open PySem PySem.Spec PyProof.Rows L2
def Li:List Str→List D→Str→Option D
 |n::ns,x::xs,f=>if n=f then some x else Li ns xs f
 |_,_,_=>none
theorem Is.obj_inv {K:PySem.W.Frag}{H:Hp}{v:V}{c:Str}{ns:List Str}{xs:List D} (h:Is K H v (.obj c ns xs)):∃C a dx fs,rA K c C∧v=.ref a∧H a=some (.ins C dx fs)∧H dx=some (.own a)∧fs.map (·.1)=ns∧fs.length=xs.length ∧
 ∀(i:Nat)(f:Str×V)(x:D),fs[i]? = some f→xs[i]? = some x→Is K H f.2 x:=by
 cases h with
 |obj hc h hd hn hl r=>exact⟨_,_,_,_,hc,rfl,h,hd,hn,hl,r⟩
theorem Oy {K:PySem.W.Frag}{H:Hp}:∀{fs:List (Str×V)}{ns:List Str}{xs:List D}{f:Str}{x:D},fs.map (·.1)=ns→fs.length=xs.length→(∀(i:Nat)(f:Str×V)(x:D),fs[i]? = some f→xs[i]? = some x→Is K H f.2 x) →
 Li ns xs f=some x→∃v,fs.lookup f=some v∧Is K H v x
 |[],_,xs,f,x,hn,hl,_,h=>by
  subst hn
  cases xs<;>cases h
 |(n,v)::fs,_,[],f,x,hn,hl,_,h=>by cases hl
 |(n,v)::fs,_,y::ys,f,x,hn,hl,r,h=>by
  subst hn
  have h:(if n=f then some y else Li (fs.map (·.1)) ys f)=some x:=h
  by_cases c:n=f
  ·rw[if_pos c] at h
   cases h
   subst c
   exact⟨v,by simp[List.lookup],r 0 (n,v) y rfl rfl⟩
  ·rw[if_neg c] at h
   obtain⟨v',h1,h2⟩:=Oy (fs:=fs) rfl (by simpa using hl) (fun i g x h1 h2=>r (i+1) g x h1 h2) h
   refine⟨v',?_,h2⟩
   have:(f==n)=false:=beq_eq_false_iff_ne.mpr fun z=>c z.symm
   simp[List.lookup,this,h1]
theorem QO {fs:List (Str×V)}{m:Str} (h:m∉fs.map (·.1)):fs.lookup m=none:=by
 induction fs with
 |nil=>rfl
 |cons p fs ih =>
  obtain⟨n,v⟩:=p
  have:(m==n)=false:=beq_eq_false_iff_ne.mpr fun z=>h (by rw[z];exact qAt)
  simp only[List.lookup,this]
  exact ih fun z=>h (qAi _ z)
section
variable {X:Cx}{e o:Expr}{te to:TE3}{pos apos:Pos}{f m:Str}
def Yj (ok:Str→Prop)(te:TE3)(f:Str):TE3:=fun τ R=>te τ fun s=>match s with
 |.d (.obj c ns xs)=>ok c∧∃x,Li ns xs f=some x∧R (.d x)
 |_=>False
theorem Jv {ok:Str→Prop} (hk:∀c C,ok c→rA X.K c C→Cls X.K C∧AS X.K C f) (he:PE3 X e te) (hb:attributeBase e f X.env (eval e X.env)=eval e X.env:=by rfl):PE3 X (.Attribute e f pos) (Yj ok te f) :=
 ⟨Al (Q6 he.out hb) fun σ H Q hh=>by
  obtain⟨B,z,τ,R,r,ht,q⟩:=hh
  refine⟨B,_,τ,_,r,ht,fun s v H1 e1 i1 f1 h1=>?_⟩
  split at h1
  ·rename_i c ns xs
   obtain⟨hc,x,hx,hR⟩:=h1
   obtain⟨C,a,dx,fs,g0,rfl,g1,g2,g3,g4,g5⟩:=Is.obj_inv i1
   obtain⟨v,h2,h3⟩:=Oy g3 g4 g5 hx
   exact⟨a,C,dx,fs,v,rfl,e1.sub _ _ g1,(hk c C hc g0).1,(hk c C hc g0).2,h2,q (.d x) v H1 e1 h3 Bp hR⟩
  ·exact h1.elim⟩
def Ib (c:Str)(m:Str)(sp:Sp3)(to:TE3):TE3:=fun τ R=>to τ fun s=>match s with
 |.d (.obj c' ns xs)=>c'=c∧m∉ns∧sp [.d (.obj c' ns xs)] R NoU
 |_=>False
structure I0 (P:Program)(w:World)(K:PySem.W.Frag)(mg:Str→Option Value)(base:Heap)(k:Nat)(c:Str)(m:Str)(ps:List Str)(sp:Sp3):Prop where
 ex:∃C f fd,rA K c C∧Cls K C∧AJ P w K mg base (CXU P w) k f fd ps (An K mg sp)∧Qs K C m f∧Binds K fd ps []
theorem Bz {k k':Nat}{c0:Str}{ps:List Str}{sp:Sp3}{pl:Sem Bool} (hr:Be k' X.A) (c:I0 X.prog X.w X.K X.mg X.base k c0 m ps sp) (ho:PE3 X o to) (hk:k≤k':=by first|decide|omega)
 (ht:eval (.Call (.Attribute o m apos) [] [] pos) X.env=(do
  let ov ←eval o X.env
  standAt apos.atName
  let (f,first) ←holding [ov] (getMethod ov m pl)
  callWith pos f first (backTo pos (starEach [] X.env)) (backToKw pos (keywordEach [] X.env))):=by rfl):PE3 X (.Call (.Attribute o m apos) [] [] pos) (Ib c0 m sp to):=by
 obtain⟨C,f,fd,hA,hcl,F,hm,hb⟩:=c.ex
 refine⟨Al (M8 (pl:=pl) (dvs:=[]) (ds:=[]) (E:=fun _ _ _=>False) ho.out hcl hm F (hr.mono hk) hb .nil (fun pins σ H s e s' I h=>?_) ht) fun σ H Q hh=>?_⟩
 ·obtain⟨_,_,_,_,_,_,_,_,_,z⟩:=h
  exact z.elim
 ·obtain⟨B,z,τ,R,r,ht,q⟩:=hh
  refine⟨B,_,τ,_,r,ht,fun s v H1 e1 i1 f1 h1=>?_⟩
  split at h1
  ·rename_i c' ns xs
   obtain⟨rfl,hn,h1⟩:=h1
   obtain⟨C',a,dx,fs,g0,rfl,g1,g2,g3,g4,g5⟩:=Is.obj_inv i1
   have eC:C'=C:=by
    have:=g0.symm.trans hA
    cases this
    rfl
   subst eC
   refine⟨a,dx,fs,rfl,e1.sub _ _ g1,QO (by rw[g3];exact hn),?_⟩
   refine⟨H1.z,[.d (.obj c' ns xs)],R,NoU,e1.sub,⟨rfl,fun i v s hv hs=>?_⟩,h1,fun s v H2 e2 i2 f2 h2=>q s v H2 (e1.trans e2) i2 (CA e1 f2) h2,fun y C H2 e2 hy hu=>hu.elim⟩
   cases i with
   |zero =>
    cases hv
    cases hs
    exact⟨i1,rfl⟩
   |succ i=>cases hs
  ·exact h1.elim
def vEi (t1 t2:TE3):TE3:=fun τ R=>t1 τ R∨t2 τ R
theorem NQ {t1 t2:TE3} (h1:PE3 X e t1) (h2:PE3 X e t2):PE3 X e (vEi t1 t2):=⟨fun pins s σ H Q I hh=>by
 obtain⟨B,z,τ,R,r,ht,q⟩:=hh
 rcases ht with ht|ht
 ·exact h1.out pins s σ H Q I ⟨B,z,τ,R,r,ht,q⟩
 ·exact h2.out pins s σ H Q I ⟨B,z,τ,R,r,ht,q⟩⟩
end
def LU (K:PySem.W.Frag)(C:Addr)(mk:List D→Option (List (Str×D))):Sp:=fun vs H Q _=>∃z a dx us ds fs,vs=.ref a::us∧H a=some (.ins C dx [])∧H dx=some (.own a)∧AU z H∧z a=none∧z dx=none∧Iss K z us ds∧mk ds=some fs ∧
 ∀gs:List (Str×V),gs.map (·.1)=fs.map (·.1)→Iss K z (gs.map (·.2)) (fs.map (·.2))→Q .non (upd H a (.ins C dx gs))
def unD:List S→Option (List D)
 |[]=>some []
 |.d x::ss=>(unD ss).map (x :: ·)
 |_::_=>none
theorem LA:∀{ss:List S}{ds:List D},unD ss=some ds→ss=ds.map S.d
 |[],ds,h=>by cases h;rfl
 |.d x::ss,ds,h=>by
  cases e:unD ss with
  |none=>rw[show unD (.d x::ss)=(unD ss).map (x :: ·) from rfl,e] at h;cases h
  |some es =>
   rw[show unD (.d x::ss)=(unD ss).map (x :: ·) from rfl,e] at h
   cases h
   rw[LA e]
   rfl
 |.l _::_,_,h=>by cases h
 |.r _::_,_,h=>by cases h
def Ra (c:Str)(mk:List D→Option (List (Str×D)))(tr:TA3):TE3:=fun τ R=>tr τ fun ss=>∃ds fs,unD ss=some ds∧mk ds=some fs∧R (.d (.obj c (fs.map (·.1)) (fs.map (·.2))))
section
variable {X:Cx}{x:Str}{p pos:Pos}{e:Expr}{es:List Expr}{tr:TA3}{C:Addr}{mk:List D→Option (List (Str×D))}
structure UH (P:Program)(w:World)(K:PySem.W.Frag)(mg:Str→Option Value)(base:Heap)(k:Nat)(x:Str)(C:Addr)(ps:List Str)(mk:List D→Option (List (Str×D))):Prop where
 at_:mg x=some (.ref C)
 nm:rA K x C
 ex:∃f fd,AJ P w K mg base (CXU P w) k f fd ps (LU K C mk)∧Mk K C f∧Binds K fd ps []
theorem Cv {k k':Nat}{ps:List Str} (hr:Be k' X.A) (c:UH X.prog X.w X.K X.mg X.base k x C ps mk) (ha:PA3 X (e::es) tr) (hk:k+1≤k':=by first|decide|omega) (hg:Gl X x:=by exact rfl)
 (hdb:(x==("__debug__":Str))=false:=by decide) (he:starEach (e::es) X.env=(false,eval e X.env)::starEach es X.env:=by exact AI rfl) (hpl:(backTo pos (starEach es X.env)).any (·.1)=false:=by exact A1 rfl) :
 PE3 X (.Call (.Name x p) (e::es) [] pos) (Ra x mk tr):=by
 obtain⟨f,fd,F,M,hb⟩:=c.ex
 refine⟨Al (Lb (dvs:=[]) (ds:=[]) (E:=fun _ _ _=>False) M F (hr.mono hk) hg c.at_ hb .nil (fun pins σ H s e s' I h=>?_) ha.out hdb he hpl) fun σ H Q hh=>?_⟩
 ·obtain⟨_,_,_,_,_,_,_,_,_,z⟩:=h
  exact z.elim
 obtain⟨B,z,τ,R,r,ht,q⟩:=hh
 refine⟨B,_,τ,_,r,ht,fun ss vs H1 e1 i1 h1=>?_⟩
 obtain⟨ds,fs,hu,hm,hR⟩:=h1
 have es:=LA hu
 subst es
 intro a dx ha0 hd0 ne
 have za:H1.z a=none:=e1.sub.free ha0
 have zd:H1.z dx=none:=e1.sub.free hd0
 refine⟨H1.z,a,dx,vs,ds,fs,by rw[qA0],Ac,by rw[Af ne];exact Ac,fun b o hb=>?_,za,zd,⟨?_,fun i v x hv hx=>?_⟩,hm,fun gs hgs hi=>⟨rfl,?_⟩⟩
 ·have b1:b≠a:=fun z=>by rw[z,za] at hb;cases hb
  have b2:b≠dx:=fun z=>by rw[z,zd] at hb;cases hb
  rw[Af b1,Af b2]
  exact e1.sub b o hb
 ·have:=i1.1
  rw[qAf] at this
  exact this
 ·exact(i1.2 i v (.d x) hv (by rw[qAl,hx];rfl)).1
 ·have E2:Ext H1 ⟨upd (upd (upd H1.h dx (.own a)) a (.ins C dx [])) a (.ins C dx gs),upd (upd H1.z dx (.own a)) a (.ins C dx gs)⟩:=by
   refine⟨fun b o hb=>?_,fun b o hb=>?_,fun b o hb=>?_,fun b o hb=>?_⟩
   ·have b1:b≠a:=fun z=>by rw[z,ha0] at hb;cases hb
    have b2:b≠dx:=fun z=>by rw[z,hd0] at hb;cases hb
    show upd _ a _ b=some o
    rw[Af b1,Af b1,Af b2]
    exact hb
   ·have b1:b≠a:=fun z=>by rw[z,za] at hb;cases hb
    have b2:b≠dx:=fun z=>by rw[z,zd] at hb;cases hb
    show upd _ a _ b=some o
    rw[Af b1,Af b2]
    exact hb
   ·have hb:upd (upd H1.z dx (.own a)) a (.ins C dx gs) b=some o:=hb
    show upd _ a _ b=some o
    by_cases b1:b=a
    ·subst b1
     rw[Ac] at hb ⊢
     exact hb
    ·rw[Af b1] at hb ⊢
     rw[Af b1]
     by_cases b2:b=dx
     ·subst b2
      rw[Ac] at hb ⊢
      exact hb
     ·rw[Af b2] at hb ⊢
      exact e1.sub b o hb
   ·have hb:upd (upd H1.z dx (.own a)) a (.ins C dx gs) b=some o:=hb
    by_cases b1:b=a
    ·subst b1;exact .inr ha0
    ·rw[Af b1] at hb
     by_cases b2:b=dx
     ·subst b2;exact .inr hd0
     ·rw[Af b2] at hb
      exact .inl hb
  refine q (.d _) (.ref a) _ (e1.trans E2) ?_ Bp hR
  refine Is.obj (dx:=dx) (fs:=gs) c.nm Ac (by show upd _ a _ dx=_;rw[Af ne];exact Ac) hgs ?_ fun i g y hg hy=>?_
  ·have:=congrArg List.length hgs
   rw[qAf,qAf] at this
   rw[qAf]
   exact this
  ·exact(hi.2 i g.2 y (by rw[qAl,hg];rfl) hy).mono E2.zz
end
end L3
namespace CH
open PySem PySem.Builtin.Str NumText
theorem ends_one (l:List Nat)(c:Nat):(decide (0+(⟨#[c]⟩:Str).length≤(mkS l).length)&&subAt (mkS l) ⟨#[c]⟩ ((mkS l).length-(⟨#[c]⟩:Str).length))=decide (l.getLast? = some c):=by
 have h:=StrLaws.subAt_one (mkS l) c (l.length-1)
 have e1:(⟨#[c]⟩:Str).length=1:=rfl
 rw[mkS_list] at h
 rw[qAW,qAF,decide_eq_true_eq,decide_eq_true_eq,List.getLast?_eq_getElem?,←h,mkS_len,e1]
 by_cases z:l.length=0
 ·rw[z]
 ·exact⟨fun a=>⟨(),a.2⟩,fun a=>⟨(),a.2⟩⟩
theorem join_no:∀ls:List (List Nat),Str.join Str.empty (ls.map mkS)=mkS ls.flatten
 |[]=>rfl
 |[x]=>by simp;rfl
 |x::y::r=>by
  have:=join_no (y::r)
  show mkS x++Str.empty++Str.join Str.empty ((y::r).map mkS)=_
  rw[this,show(Str.empty:Str)=mkS [] from rfl,Ao,Ao,qA0]
  rfl
end CH
namespace L3
open PySem PySem.Spec PyProof.Rows L2
section
variable {X:Cx}{e o:Expr}{te to:TE3}{pos:Pos}
theorem OU:MtR X "str.endswith" (fun x xs H Q=>∃(l:List Nat)(c:Nat),x=.str (CH.mkS l)∧xs=[.str ⟨#[c]⟩]∧Q (.bl (decide (l.getLast? = some c))) H):=by
 intro pins s σ H x xs v us Q I rx rs h
 obtain⟨l,c,rfl,rfl,q⟩:=h
 obtain⟨t,rfl⟩:=rx
 obtain⟨u,rfl,t',rfl⟩:=Bd rs
 refine PySem.call_meets F.slot_str_endswith (typeIs_str _ _ _) F.entry_str_endswith (F.args_str_endswith_2 _ _) (gives_str_endswith (CH.mkS l) ⟨#[c]⟩ t t').meets ?_
 refine⟨.bl _,H,I,?_,q⟩
 show Value.bool _=_
 rw[←CH.ends_one]
def Yk (to te:TE3):TE3:=fun τ R=>to τ fun x=>tS x fun y=>te τ fun z=>tS z fun w=>∃(l:List Nat)(c:Nat),y=CH.mkS l∧w=⟨#[c]⟩∧R (.d (.bl (decide (l.getLast? = some c))))
theorem D1 {ap cp:Pos} (ho:PE3 X o to) (he:PE3 X e te) (hbase:attributeBase o "endswith" X.env (eval o X.env)=eval o X.env:=by rfl)
 (hfew:((backTo cp (starEach [e] X.env)).all (fun x=>!x.1)&&(backToKw cp (keywordEach [] X.env)).all (fun x=>x.1.isSome)&&decide ([e].length+([]:List Keyword).length+(if ([]:List Keyword).isEmpty then 0 else 1)<30))=true:=by rfl)
 (hline:(ap.endLine==cp.line)=true:=by rfl) (hs:starEach [e] X.env=(false,eval e X.env)::starEach [] X.env:=by rfl) (hplain:(backTo cp (starEach [] X.env)).any (·.1)=false:=by rfl) :
 PE3 X (.Call (.Attribute o "endswith" ap) [e] [] cp) (Yk to te) :=
 ⟨Al (Ie qA6 PySem.F.slot_str_endswith PySem.F.type_str_endswith OU ho.out (Az he.out A5 hs) hbase hfew hline hs hplain) fun σ H Q hh=>by
  obtain⟨B,z,τ,R,r,ht,q⟩:=hh
  refine⟨B,_,τ,_,r,ht,fun x v H1 e1 i1 f1 h1=>?_⟩
  obtain⟨y,rfl,h1⟩:=Bx h1
  cases Is.str_inv i1
  refine⟨rfl,B,_,τ,_,r.mono e1,h1,fun s u H2 e2 i2 f2 h2=>?_⟩
  obtain⟨w,rfl,l,c,rfl,rfl,h3⟩:=Bx h2
  cases Is.str_inv i2
  exact⟨l,c,rfl,rfl,q (.d _) _ H2 (e1.trans e2) (Is.bl _) Bp h3⟩⟩
theorem Mp:MtR X "str.join" (fun x xs H Q=>∃(p:Addr)(ls:List (List Nat)),x=.str Str.empty∧xs=[.ref p]∧SqL X.K H p ((ls.map CH.mkS).map V.str)∧ls.flatten.length≤1000000∧Q (.str (CH.mkS ls.flatten)) H):=by
 intro pins s σ H x xs v us Q I rx rs h
 obtain⟨p,ls,rfl,rfl,hq,hl,q⟩:=h
 obtain⟨t,rfl⟩:=rx
 obtain⟨u,rfl,r1⟩:=Bd rs
 cases r1
 obtain⟨its,rv,pl,hz⟩:=I.list hq
 obtain⟨l,rfl,el⟩:=Dv rv
 have hs:sizeLine=16777216:=sizeLine_eq
 have e0:(ls.map CH.mkS).map (·.length)=ls.map (·.length):=by
  rw[qBr]
  exact qBM fun x _=>CH.mkS_len x
 have et:Txt.join Str.empty (l.map (·.1))=CH.mkS ls.flatten:=by
  rw[el,←CH.join_no]
  exact StrLaws.glued_eq_join _ _
 have hfl:ls.flatten.length=(ls.map (·.length)).sum:=by rw[List.length_flatten]
 refine PySem.call_meets F.slot_str_join (typeIs_str _ _ _) F.entry_str_join (F.args_str_join_2 _ _) (meets_str_join_list Str.empty t p l ?_) ⟨pl.isList,post_join l ⟨?_,fun t' k=>?_⟩⟩
 ·rw[el]
  have:=StrLaws.joinTotal Str.empty (ls.map CH.mkS)
  unfold Builtin.Str.tooLong
  rw[this,e0,qAf,show(Str.empty:Str).length=0 from rfl]
  exact decide_eq_false ()
 ·rw[et,CH.mkS_len]
  omega
 ·rw[et]
  exact⟨.str _,H,I.tok k,⟨_,rfl⟩,q⟩
def SE (to te:TE3):TE3:=fun τ R=>to τ fun x=>tS x fun y=>te τ fun z=>∃(ls:List (List Nat)),y=Str.empty∧items z=some (ls.map fun p=>D.str (CH.mkS p))∧z≠.d (.tup (ls.map fun p=>D.str (CH.mkS p)))∧ls.flatten.length≤1000000∧R (.d (.str (CH.mkS ls.flatten)))
theorem Pg {ap cp:Pos} (ho:PE3 X o to) (he:PE3 X e te) (hbase:attributeBase o "join" X.env (eval o X.env)=eval o X.env:=by rfl)
 (hfew:((backTo cp (starEach [e] X.env)).all (fun x=>!x.1)&&(backToKw cp (keywordEach [] X.env)).all (fun x=>x.1.isSome)&&decide ([e].length+([]:List Keyword).length+(if ([]:List Keyword).isEmpty then 0 else 1)<30))=true:=by rfl)
 (hline:(ap.endLine==cp.line)=true:=by rfl) (hs:starEach [e] X.env=(false,eval e X.env)::starEach [] X.env:=by rfl) (hplain:(backTo cp (starEach [] X.env)).any (·.1)=false:=by rfl) :
 PE3 X (.Call (.Attribute o "join" ap) [e] [] cp) (SE to te) :=
 ⟨Al (Ie qA6 qCJ qCK Mp ho.out (Az he.out A5 hs) hbase hfew hline hs hplain) fun σ H Q hh=>by
  obtain⟨B,z,τ,R,r,ht,q⟩:=hh
  refine⟨B,_,τ,_,r,ht,fun x v H1 e1 i1 f1 h1=>?_⟩
  obtain⟨y,rfl,h1⟩:=Bx h1
  cases Is.str_inv i1
  refine⟨rfl,B,_,τ,_,r.mono e1,h1,fun s u H2 e2 i2 f2 h2=>?_⟩
  obtain⟨ls,rfl,hx,hne,hl,h2⟩:=h2
  obtain⟨a,vs,rfl,g2,g1⟩:=Hf i2 e2.sub hx
  have ev:=Ep g2
  subst ev
  refine⟨a,ls,rfl,rfl,?_,hl,q (.d _) _ H2 (e1.trans e2) (Is.str _) Bp h2⟩
  rcases g1 with g1|g1
  ·exact g1
  ·exact absurd g1.2 hne⟩
def GQ:List D→Option (List Str)
 |[]=>some []
 |.str x::r=>(GQ r).map (x :: ·)
 |_::_=>none
theorem Lc:∀{ds:List D}{ss:List Str},GQ ds=some ss→ds=ss.map D.str
 |[],ss,h=>by cases h;rfl
 |.str x::r,ss,h=>by
  cases e:GQ r with
  |none=>rw[show GQ (.str x::r)=(GQ r).map (x :: ·) from rfl,e] at h;cases h
  |some es =>
   rw[show GQ (.str x::r)=(GQ r).map (x :: ·) from rfl,e] at h
   cases h
   rw[Lc e]
   rfl
 |.non::_,_,h|.bl _::_,_,h|.int _::_,_,h|.ty _::_,_,h|.tup _::_,_,h|.lst _::_,_,h|.ref _::_,_,h|.obj _ _ _::_,_,h=>by cases h
theorem FO {K:PySem.W.Frag}{H:Hp}{vs:List V}{ss:List Str} (h:Iss K H vs (ss.map D.str)):vs=ss.map V.str:=by
 refine qA1 fun i=>?_
 have hl:=h.1
 rw[qAf] at hl
 rw[qAl]
 cases e:ss[i]? with
 |none =>
  have:=qAs.mp e
  exact qAs.mpr ()
 |some p =>
  have hi:=(qAj.mp e).1
  have hv:vs[i]? = some (vs[i]' ()):=qAc ()
  have:=h.2 i _ _ hv (by rw[qAl,e];rfl)
  rw[hv,Is.str_inv this]
  rfl
def Lg:R3:=fun dx dy R=>match dx,dy with
 |.str i,.tup ds=>∃ss,GQ ds=some ss∧R (.bl (!decide (i∈ss)))
 |_,_=>False
theorem Nl (i:Str)(ss:List Str):inV (.str i) (ss.map V.str)=decide (i∈ss):=by
 unfold inV
 rw[qAW,decide_eq_true_eq,List.any_map,List.any_eq_true]
 constructor
 ·rintro⟨x,hx,e⟩
  have:x=i:=by simpa [eqV] using e
  rw[←this];exact hx
 ·intro h
  exact⟨i,h,by simp[eqV]⟩
theorem Ki (ss:List Str):(ss.map V.str).all flatV=true:=by
 rw[qCS,qAp]
 exact fun x _=>rfl
theorem Bk:Dx X (compareOp .NotIn) Lg:=Bu Gz fun x y H Q hh=>by
 obtain⟨z,dx,dy,R,hz,hx,hy,h3,q⟩:=hh
 unfold Lg at h3
 split at h3
 ·rename_i i ds
  obtain⟨ss,hs,h3⟩:=h3
  have e:=Lc hs
  subst e
  obtain⟨a,vs,rfl,g1,g2⟩:=Is.tup_inv hy
  cases hx.str_inv
  have ev:=FO g2
  subst ev
  exact⟨a,_,rfl,.inr (SqT.same hz g1),rfl,Ki ss,by rw[if_pos rfl,Nl];exact q _ _ ⟨H,z⟩ (Ext.refl hz) (.bl _) h3⟩
 ·exact h3.elim
end
end L3
namespace L3
open PySem PySem.Spec PyProof.Rows L2
def WM (y:Str):It:=⟨fun i _=>i<y.cps.size,fun i H x H'=>∃p c,H p=none∧x=.ref p∧y.cps[i]? = some c∧H'=upd H p (.tup [.int i,.str ⟨#[c]⟩]),fun i _=>y.cps.size≤i⟩
theorem JN {P:Program}{w:World}{K:PySem.W.Frag}{elts:List Expr}{x1:Nat}{tpos:Pos} (e it:Addr) (y:Str) (t:Tok) (hne:e≠it):MM P w K (.Tuple elts x1 tpos) (WM y) [e,it] e (fun i h=>(∃old,IsEnum h e it ((i:Nat):Int) old)∧h.IsStrIter it "str_ascii_iterator" y t i∧i≤y.cps.size) where
 mem:=by simp
 obj:=fun i h st b hb=>by
  obtain⟨⟨old,he⟩,hi,_⟩:=st
  rcases qAq.mp hb with rfl|hb
  ·exact⟨_,he,fun v z=>by cases z⟩
  ·have:b=it:=by simpa using hb
   subst this
   obtain⟨o,e1,c,d⟩:=hi
   exact⟨o,e1,fun v z=>by rw[d] at z;cases z⟩
 keep:=fun i h h' st k=>⟨let ⟨old,he⟩:=st.1;⟨old,k e (by simp) _ he⟩,let ⟨o,e1,r⟩:=st.2.1;⟨o,k it (by simp) o e1,r⟩,st.2.2⟩
 item:=by
  intro X hP hw hK hc i pins s σ H E I hf st hg
  subst hP hw hK
  have hg:i<y.cps.size:=hg
  obtain⟨⟨old,he⟩,hi,_⟩:=st
  obtain⟨f0,f1,f2,f3,f4,f5⟩:=hf e (by simp)
  obtain⟨g0,g1,g2,g3,g4,g5⟩:=hf it (by simp)
  refine wpAny_pyNext_enum_itemD (Draws.strAscii (A:=X.A.in1) (show X.A.in1.handled=none from I.ok.hd hc) it y t) he hi hg hne (by simpa using hne) fun u h1 tk pu heo hit1 ht1 hz1 hk1=>⟨_,rfl,wpAny_letOwnedTupleGo_enum (s:={ s with heap:=h1,toks:=tk+1 }) heo fun h2 he2 hs2=>?_⟩
  obtain⟨c,tu,hcc,rfl⟩:=pu
  have hs2':Heap.SameBut e h1 h2:=hs2
  have el:e<s.heap.objs.size:=qAh he
  have sz:s.heap.objs.size≠e:=qBq el
  have hn:H s.heap.objs.size=none:=I.hok.fresh (qAg _)
  have old2:∀b o,b≠e→b≠it→s.heap.get? b=some o→h2.get? b=some o:=fun b o n1 n2 z=>(hs2'.2 b n1).trans (hk1 b o n1 n2 z)
  have tup2:h2.get? s.heap.objs.size=some { cls:=.type "tuple",data:=.seq #[.int i tk,.str ⟨#[c]⟩ tu] }:=(hs2'.2 _ sz).trans ht1
  have trk:∀{b:Addr}{o:HO},H b=some o→b≠e∧b≠it:=fun {b o} z=>⟨(fun y=>by rw[y,f0] at z;cases z),(fun y=>by rw[y,g0] at z;cases z)⟩
  have hok2:HOk X.prog X.w (upd H s.heap.objs.size (.tup [.int i,.str ⟨#[c]⟩])) h2:=fun b o z=>by
   by_cases hb:b=s.heap.objs.size
   ·subst hb
    rw[Ac] at z
    cases z
    exact⟨by show 2≤sizeLine;decide,[.int i tk,.str ⟨#[c]⟩ tu],.cons ⟨_,rfl⟩ (.cons ⟨_,rfl⟩ .nil),⟨_,tup2,rfl,_,rfl⟩⟩
   ·rw[Af hb] at z
    refine(I.hok b o z).stay (hf:=fun c w1 w2 y=>by rw[Af (Am y hn)];exact y) (fun c v hc' y=>?_) (fun c y=>by rw[Af (Am y hn)];exact y) fun c ys y=>by rw[Af (Am y hn)];exact y
    have t:c≠e∧c≠it:=by
     rcases hc' with rfl|hc'
     ·exact trk z
     ·exact trk hc'
    exact old2 c v t.1 t.2 y
  have I2:Inv X pins σ (upd H s.heap.objs.size (.tup [.int i,.str ⟨#[c]⟩])) { s with heap:=h2,toks:=tk+1 }:=by
   refine I.step (g':=s.gens) (d':=s.drawn) (ch:=[e,it]) (fun b hb=>?_) (fun b o _ _ hb z _=>old2 b o (fun y=>hb (by simp[y])) (fun y=>hb (by simp[y])) z) (fun b o _ _ hb z _=>⟨o.slots,old2 b o (fun y=>hb (by simp[y])) (fun y=>hb (by simp[y])) z⟩)
    (fun b o _ z n=>by rw[Af (qAo (qAh z))];exact n) (fun b o hb z=>⟨o,old2 b o (fun y=>hb (by simp[y])) (fun y=>hb (by simp[y])) z⟩)
    (fun b ys y=>by rw[Af (Am y hn)];exact y) (fun b o ys y=>by rw[Af (Am y hn)];exact y) (fun b ps y=>⟨#[],by rw[Af (Am y hn),y];simp⟩) (fun m hm=>?_) hok2 I.bare
   ·rcases qAq.mp hb with rfl|hb
    ·exact⟨f3,f1,f4,f5⟩
    ·have:b=it:=by simpa using hb
     subst this
     exact⟨g3,g1,g4,g5⟩
   ·obtain⟨o,es,ep,ho,r⟩:=hm
    exact⟨o,es,ep,old2 _ o (Ne.symm f1) (Ne.symm g1) ho,r⟩
  refine⟨.ref s.heap.objs.size,_,I2,rfl,⟨_,c,hn,rfl,hcc,rfl⟩,⟨⟨.str ⟨#[c]⟩ tu,?_⟩,?_,hg⟩,fun b hb=>?_⟩
  ·have:((i+1:Nat):Int)=(i:Int)+1:=()
   rw[this]
   exact he2
  ·obtain⟨o,e1,r⟩:=hit1
   exact⟨o,(hs2'.2 it (Ne.symm hne)).trans e1,r⟩
  ·rcases qAq.mp hb with rfl|hb
   ·rw[Af (Ne.symm sz)];exact f0
   ·have:b=it:=by simpa using hb
    subst this
    obtain⟨o,e1,_⟩:=hi
    rw[Af (qAo (qAh e1))]
    exact g0
 done:=by
  intro X hP hw hK hc i pins s σ H E I hf st hg
  subst hP hw hK
  obtain⟨⟨old,he⟩,hi,hle⟩:=st
  have hg:y.cps.size≤i:=hg
  have ei:i=y.cps.size:=()
  obtain⟨g0,g1,g2,g3,g4,g5⟩:=hf it (by simp)
  refine wpAny_pyNext_enum_endD (Draws.strAscii (A:=X.A.in1) (show X.A.in1.handled=none from I.ok.hd hc) it y t) he (by rw[←ei];exact hi) fun h' hx'=>⟨rfl,?_⟩
  exact I.turned (t':=s.toks) (fun b o hb z=>hx' b o hb z) g0 g1 g3 g4 g5
 self:=fun A i s Q E st h=>by
  obtain⟨⟨old,he⟩,_⟩:=st
  exact wpAny_pyIter_enum he h
section
variable {X:Cx}{pos:Pos}
def NY (tl:TE):TI:=fun σ H R=>tl σ H fun x H1=>∃y,x=.str y∧y.cps.all (· < 128)=true∧R (WM y) H1
theorem MQ {elts:List Expr}{x1:Nat}{tpos p:Pos}{l:Expr}{tl:TE} (hg:Gl X "enumerate") (hm:X.mg "enumerate"=none) (hl:PE X l tl) (hs:starEach [l] X.env=[(false,eval l X.env)]:=by rfl):PI X (.Tuple elts x1 tpos) (.Call (.Name "enumerate" p) [l] [] pos) (NY tl):=by
 intro pins s σ H R I h
 refine Call_ (B6 I hg hm qCl (qAX ?_ hs rfl))
 rw[hs]
 refine Calls.spliced_cons (thn (hl pins s σ H _ I h) fun v s1 ⟨x,H1,I1,r1,q1⟩=>Calls.spliced_nil ?_)
 obtain⟨y,e,ha,q⟩:=q1
 subst e
 obtain⟨t,rfl⟩:=r1
 refine call_enumerate_str fun h' he hit hz old=>?_
 have I2:Inv X pins σ H1 { s1 with heap:=h' }:=I1.kept (t':=s1.toks) old
 refine wpAny_pyIter_enum (s:={ s1 with heap:=h' }) he ?_
 have es:strIterType y="str_ascii_iterator":=by unfold strIterType;rw[if_pos ha]
 rw[es] at hit
 refine⟨s1.heap.objs.size+1,[s1.heap.objs.size+1,s1.heap.objs.size],_,_,H1,rfl,I2,JN (s1.heap.objs.size+1) s1.heap.objs.size y t (qCv _),⟨⟨_,he⟩,hit,qAw _⟩,fun b hb=>?_,q⟩
 rcases qAq.mp hb with rfl|hb
 ·exact I1.fpOk (qA4 _) (I1.hok.fresh (qA4 _))
 ·have:b=s1.heap.objs.size:=by simpa using hb
  subst this
  exact I1.fpOk (qAg _) (I1.hok.fresh (qAg _))
def NU (j i1 i2:Nat)(tb:TS3):TS3:=fun D3 τ=>match τ[j]? with
 |some (some (.d (.str y)))=>y.cps.all (· < 128)=true∧NG i1 i2 (y.cps.toList.map fun c=>D.str ⟨#[c]⟩) tb D3 τ
 |_=>False
theorem P9 {j i1 i2:Nat}{x1 x2 y:Str}{p1 p2 pt py pn pc:Pos}{kt:Nat}{body:List Stmt}{tb:TS3}
 (h:PS X (.For (.Tuple [.Name x1 p1,.Name x2 p2] kt pt) (.Call (.Name "enumerate" pn) [.Name y py] [] pc) body [] pos) (Kg (NY (Gw j)) (UB X.K 2 (LQ (BL i1) (LQ (BL i2) VG))) (FS X tb))) (hp1:Bi X i1:=by first|exact AZ rfl|exact A0 rfl ∅|assumption) (hp2:Bi X i2:=by first|exact AZ rfl|exact A0 rfl ∅|assumption) :
 PS3 X (.For (.Tuple [.Name x1 p1,.Name x2 p2] kt pt) (.Call (.Name "enumerate" pn) [.Name y py] [] pc) body [] pos) (NU j i1 i2 tb):=⟨AF h fun D2 σ H hh=>by
 obtain⟨B,z,τ,D3,r,ht,c⟩:=hh
 unfold NU at ht
 split at ht
 ·rename_i y hs
  obtain⟨ha,I,i0,turn,out⟩:=ht
  obtain⟨v,h1,h2⟩:=r.val j _ hs
  cases Is.str_inv h2
  refine⟨.str y,h1,y,rfl,ha,fun n m σ1 H1=>m=y.cps.size-n∧n≤y.cps.size∧∃z1 τ1,Rep X ⟨Eu τ σ H,z⟩ τ1 σ1 ⟨H1,z1⟩∧I n τ1,⟨y.cps.size,rfl,qAw _,z,_,r.inB,i0⟩,?_⟩
  rintro n m σ1 H1 ⟨rfl,hn,z1,τ1,r1,ih1⟩
  by_cases hlt:n<y.cps.size
  ·refine .inr ⟨hlt,fun σ' H'=>∃z' τ',Rep X ⟨Eu τ σ H,z⟩ τ' σ' ⟨H',z'⟩∧I (n+1) τ',fun σ' H' p'=>⟨y.cps.size-(n+1),(),rfl,hlt,p'⟩,fun x H' w=>?_⟩
   obtain⟨p,c',hp,rfl,hc',rfl⟩:=w
   have hx:(y.cps.toList.map fun c=>D.str ⟨#[c]⟩)[n]? = some (D.str ⟨#[c']⟩):=by
    rw[qAl,Array.getElem?_toList,hc'];rfl
   have e1:Ext ⟨H1,z1⟩ ⟨upd H1 p (.tup [.int n,.str ⟨#[c']⟩]),z1⟩:=Ext.own r1.ext.sub hp _
   have r2:=r1.mono e1
   refine⟨p,[.int n,.str ⟨#[c']⟩],rfl,.inl (.inl Ac),rfl,.int n,[.str ⟨#[c']⟩],rfl,.str ⟨#[c']⟩,[],rfl,rfl,?_⟩
   exact⟨_,_,_,_,(r2.setd (i:=i1) (.int (n:Int)) hp1).setd (i:=i2) (.str _) hp2,turn n τ1 _ hx ih1,c.inB r.leB fun τ' σ' p' r' h'=>⟨p'.z,τ',r',h'⟩⟩
  ·refine .inl ⟨qBF hlt,c.nx _ _ _ (r1.outB r.leB) (out τ1 ?_)⟩
   have e:n=y.cps.size:=()
   rw[qAf,Array.length_toList,←e]
   exact ih1
 ·exact ht.elim⟩
end
end L3
namespace L3
open PySem PySem.Spec PyProof.Rows L2
section
variable {X:Cx}{e:Expr}{te:TE3}{pos:Pos}
def Zc (te:TE3):TX3:=fun τ P=>te τ fun s=>tS s fun y=>y.cps.all (· < 128)=true∧P (y.cps.toList.map fun c=>D.str ⟨#[c]⟩)
theorem Qn:Src X (Vd (FE X te)) (Zc te):=by
 intro B τ σ H z P R r ht k
 refine⟨B,z,τ,_,r,ht,fun s v H1 e1 i1 f1 h1=>?_⟩
 obtain⟨y,rfl,ha,h1⟩:=Bx h1
 cases Is.str_inv i1
 refine⟨y,rfl,ha,k _ H1 _ e1 h1 fun H' e=>⟨fun i hlt=>?_,fun i hle=>?_⟩⟩
 ·rw[qAf,Array.length_toList] at hlt
  refine⟨hlt,fun x H'' hy=>?_⟩
  obtain⟨e1,c,hc,rfl⟩:=hy
  exact⟨e1,_,by rw[qAl,Array.getElem?_toList,hc];rfl,.str _⟩
 ·rw[qAf,Array.length_toList] at hle
  exact hle
theorem IF:∀{bs:List Bool}{its:List Value},AA (bs.map V.bl) its→its=bs.map Value.bool
 |[],_,.nil=>rfl
 |b::bs,_,.cons r t=>by
  cases r
  rw[IF t]
  rfl
theorem LR (bs:List Bool):((List.range bs.length).all fun i=>bs.getD i false)=bs.all id:=by
 rw[qAW,qAp,qAp]
 constructor
 ·intro h x hx
  obtain⟨i,hi,rfl⟩:=List.mem_iff_getElem.mp hx
  have:=h i (qAV.mpr hi)
  rw[qBb,qAc hi] at this
  exact this
 ·intro h i hi
  have hi:=qAV.mp hi
  rw[qBb,qAc hi]
  exact h _ (qCy hi)
theorem FD (hc:X.calm=true):A7 X (.builtin "all") (fun xs H Q=>∃(p:Addr)(bs:List Bool),xs=[.ref p]∧SqL X.K H p (bs.map V.bl)∧Q (.bl (bs.all id)) H):=by
 intro pins s σ H xs us Q I r h
 obtain⟨p,bs,rfl,hq,q⟩:=h
 obtain⟨u,rfl,rx⟩:=Bd r
 cases rx
 obtain⟨its,rv,pl,hz⟩:=I.list hq
 have ei:=IF rv
 subst ei
 have pli:=pl.isList
 refine call_all_walk (wpAny_pyIter_list pli ?_)
 have ne:p≠s.heap.objs.size:=by
  obtain⟨o,e1,_⟩:=pli
  exact qAo (qAh e1)
 refine⟨s.heap.objs.size,_,_,_,_,_,fun i=>bs.getD i false,rfl,Walks.list (A:=X.A.in1) (show X.A.in1.handled=none from I.ok.hd hc) _ p ne (bs.map Value.bool).toArray,⟨⟨_,qAm _ rfl,rfl,rfl⟩,?_⟩,fun i v s1 Q1 E1 hv hQ=>?_,fun h' tk hk=>?_⟩
 ·obtain⟨o,e1,r1⟩:=pli
  exact⟨o,qAb _ e1,r1⟩
 ·have hv:(bs.map Value.bool)[i]? = some v:=by simpa using hv
  rw[qAl] at hv
  cases eb:bs[i]? with
  |none=>rw[eb] at hv;cases hv
  |some b =>
   rw[eb] at hv
   cases hv
   have:bs.getD i false=b:=by rw[qBb,eb];rfl
   have hQ:Q1 (bs.getD i false) s1:=hQ
   rw[this] at hQ
   exact wpAny_truthy_bool hQ
 ·refine⟨.bl (bs.all id),H,?_,?_,q⟩
  ·refine I.kept (t':=tk) fun b u eb=>hk b u ?_ (qAb _ eb)
   intro z
   have z:b=s.heap.objs.size:=by simpa using z
   exact qAo (qAh eb) z
  ·show Value.bool _=_
   rw[show(bs.map Value.bool).toArray.size=bs.length by simp,LR]
def Yh:List S→(S→Prop)→Prop:=fun ss R=>∃(s:S)(bs:List Bool),ss=[s]∧items s=some (bs.map D.bl)∧s≠.d (.tup (bs.map D.bl))∧R (.d (.bl (bs.all id)))
theorem Qj {K:PySem.W.Frag}{H:Hp}{vs:List V}{bs:List Bool} (h:Iss K H vs (bs.map D.bl)):vs=bs.map V.bl:=by
 refine qA1 fun i=>?_
 have hl:=h.1
 rw[qAf] at hl
 rw[qAl]
 cases e:bs[i]? with
 |none =>
  have:=qAs.mp e
  exact qAs.mpr ()
 |some p =>
  have hi:=(qAj.mp e).1
  have hv:vs[i]? = some (vs[i]' ()):=qAc ()
  have:=h.2 i _ _ hv (by rw[qAl,e];rfl)
  rw[hv,Is.bl_inv this]
  rfl
theorem V5 (hc:X.calm=true):Co X (.builtin "all") Yh:=Bm (FD hc) fun xs H Q hh=>by
 obtain⟨z,ss,R,hz,ha,h3,q⟩:=hh
 obtain⟨s,bs,rfl,hx,hne,h3⟩:=h3
 obtain⟨v,rfl,h⟩:=Ef ha
 obtain⟨a,vs,rfl,g2,g1⟩:=Hf h hz hx
 have ev:=Qj g2
 subst ev
 refine⟨a,bs,rfl,?_,q (.d _) _ ⟨H,z⟩ (Ext.refl hz) (Is.bl _) Bp h3⟩
 rcases g1 with g1|g1
 ·exact g1
 ·exact absurd g1.2 hne
end
end L3
namespace L3
open PySem PySem.Spec PyProof.Rows L2
def Nq (w:World)(led:Bool)(o:Obj)(xs:List Str):Prop:=o.ExactSet∧∃es ep t,o.data=Data.set es ep t∧t.fits es.size=true∧t.led=led∧(es.size≠0→t.plain=false) ∧
 ∃l:List (Str×Tok),es.toList=l.map (fun p=>(hashStr w p.1,Value.str p.1 p.2))∧l.map (·.1)=xs
theorem Nr {P:Program}{w:World}{es:Array (Int×Value)}{l:List (Str×Tok)} (h:es.toList=l.map (fun p=>(hashStr w p.1,Value.str p.1 p.2))):ElemsOf (strKind P w) es.toList:=by
 intro e he
 rw[h] at he
 obtain⟨p,_,rfl⟩:=qBa.mp he
 exact⟨⟨p.1,strKind_is P w p.1 p.2,rfl⟩,rfl⟩
theorem II {α β:Type}{f:α→β}{ys zs:List β} (h:ys.Perm zs):∀{l:List α},zs=l.map f→∃l':List α,ys=l'.map f∧l'.Perm l:=by
 induction h with
 |nil=>intro l e;exact⟨l,e,.refl _⟩
 |cons x p ih =>
  intro l e
  cases l with
  |nil=>cases e
  |cons a l =>
   rw[qA8] at e
   cases e
   obtain⟨l',e',p'⟩:=ih rfl
   exact⟨a::l',by rw[qA8,←e'],p'.cons a⟩
 |swap x y zs =>
  intro l e
  match l,e with
  |a::b::l,e =>
   rw[qA8,qA8] at e
   cases e
   exact⟨b::a::l,rfl,.swap ..⟩
 |trans p q ihp ihq =>
  intro l e
  obtain⟨l1,e1,p1⟩:=ihq e
  obtain⟨l2,e2,p2⟩:=ihp e1
  exact⟨l2,e2,p2.trans p1⟩
theorem OL (t:SetTable)(es:Array (Int×Value))(h:Int)(x:Value):(layNew t es h x).2.1.led=t.led:=by
 unfold layNew
 split
 ·rename_i slot d e
  dsimp only
  unfold SetTable.orStandIn
  split<;>rfl
 ·rfl
theorem JL {m f mv:Nat}{led pl:Bool}{hs:Array Int}{t':SetTable}{ord:Array Nat} (h:SetTable.laid m f mv led pl hs=some (t',ord)):t'.led=led∧t'.plain=pl:=by
 unfold SetTable.laid at h
 cases e:SetTable.layClean m hs with
 |none=>rw[e] at h;cases h
 |some ow=>rw[e] at h;cases h;exact⟨rfl,rfl⟩
theorem HM (t:SetTable)(es:Array (Int×Value))(n:Nat)(hp:t.plain=false):(relayAll t es n).2.1.led=t.led∧(relayAll t es n).2.1.plain=false:=by
 unfold relayAll
 split
 ·rename_i t' order e
  obtain⟨e1,e2⟩:=JL e
  dsimp only
  split
  ·exact⟨e1,e2.trans hp⟩
  ·exact⟨rfl,rfl⟩
 ·exact⟨rfl,rfl⟩
theorem Ky {w:World}{led:Bool}{o:Obj}{es es':Array (Int×Value)}{ep:Nat}{t t':SetTable}{l:List (Str×Tok)} (hx:o.ExactSet) (hd:o.data=Data.set es ep t) (hf:t'.fits es'.size=true) (hl:t'.led=led) (hp:t'.plain=false) (he:es'.toList=l.map (fun p=>(hashStr w p.1,Value.str p.1 p.2))) :
 Nq w led (Obj.putSet es' t' o) (l.map (·.1))∧(Obj.putSet es' t' o).data=Data.set es' (ep+1) t':=by
 rw[putSet_of es' t' hd]
 exact⟨⟨hx,es',ep+1,t',rfl,hf,hl,fun _=>hp,l,he,rfl⟩,rfl⟩
theorem OD {P:Program}{w:World}{A:Around}{E:Value→Shared→Prop}{s:Shared}{a:Addr}{o:Obj}{xs:List Str}{led:Bool}{x:Str}{tk:Tok}{Q:Bool→Shared→Prop} (ho:s.heap.get? a=some o) (hs:Nq w led o xs) (hn:xs.length+1<4096)
 (h1:x∈xs→Q false s) (h2:x∉xs→∀h' o' xs',Heap.SameBut a s.heap h'→h'.get? a=some o'→Nq w led o' xs'→xs'.Perm (x::xs)→Q true { s with heap:=h' }) :
 wpAny (model P w) A (setAddHashed a (.str x tk) (hashStr w x)) Q E s:=by
 obtain⟨hx,es,ep,t,hd,hf,hl,hp,l,he,hxs⟩:=hs
 have hE:ElemsOf (strKind P w) es.toList:=Nr he
 have sz:es.size=xs.length:=by
  rw[←Array.length_toList,he,qAf,←hxs,qAf]
 have sL:(4097:Nat)≤sizeLine:=∅
 unfold setAddHashed
 refine wpAny_holding ?_
 rw[setAddHashedIn.eq_def]
 refine wpAny_bind (wpAny_setState_of ho hd hf ?_)
 dsimp only
 rw[if_pos (byScan_of (knd:=strKind P w) rfl (by rw[sz];show _<4096;omega) hE)]
 refine wpAny_bind ?_
 unfold setAddByScan
 refine wpAny_bind (wpAny_rule ?_)
 refine wpAny_bind (wpAny_setScan_of (knd:=strKind P w) (k:=x) (strKind_is P w x tk) ho hd hf hE ?_)
 cases e:List.findIdx? (fun e=>(strKind P w).is x e.snd) es.toList with
 |some j =>
  dsimp only
  refine wpAny_pure (wpAny_pure (h1 ?_))
  obtain⟨hj,hj2,_⟩:=List.findIdx?_eq_some_iff_getElem.mp e
  have key:∀e'∈es.toList,(strKind P w).is x e'.snd=true→x∈xs:=fun e' hm hk=>by
   rw[he] at hm
   obtain⟨p,hp1,rfl⟩:=qBa.mp hm
   have:(p.1==x)=true:=hk
   have:p.1=x:=eq_of_beq this
   rw[←hxs,←this]
   exact qBa.mpr ⟨p,hp1,rfl⟩
  exact key _ (qCy hj) hj2
 |none =>
  dsimp only
  have nx:x∉xs:=fun hm=>by
   rw[←hxs] at hm
   obtain⟨p,hp1,hp2⟩:=qBa.mp hm
   have:=List.findIdx?_eq_none_iff.mp e (hashStr w p.1,Value.str p.1 p.2) (by rw[he];exact qBa.mpr ⟨p,hp1,rfl⟩)
   rw[hp2] at this
   rw[show(strKind P w).is x (Value.str x p.2)=true from strKind_is P w x p.2] at this
   cases this
  have lf:=layNew_fits t es (hashStr w x) (.str x tk)
  have lp:=layNew_perm t es (hashStr w x) (.str x tk)
  have ll:=OL t es (hashStr w x) (.str x tk)
  generalize layNew t es (hashStr w x) (.str x tk)=Y at lf lp ll ⊢
  obtain⟨es1,t1,wd,gave⟩:=Y
  have lf:t1.fits es1.size=true:=lf
  have ll:t1.led=t.led:=ll
  obtain⟨l1,he1,pl1⟩:=II (f:=fun p:Str×Tok=>(hashStr w p.1,Value.str p.1 p.2)) (l:=l++[(x,tk)]) lp (by rw[Array.toList_push,he,qA9];rfl)
  have px:(l1.map (·.1)).Perm (x::xs):=by
   have:=pl1.map (·.1)
   rw[qA9,hxs] at this
   exact this.trans (List.perm_append_comm (l₁:=xs) (l₂:=[x]))
  have s1:es1.size≤sizeLine:=by
   have:es1.size=xs.length+1:=by
    rw[←Array.length_toList,he1,qAf,pl1.length_eq,qAa,←hxs,qAf]
    rfl
   omega
  have fin:∀(t2:SetTable)(G:Bool→Sem Unit),t2.fits es1.size=true→t2.led=led→t2.plain=false→(∀(b:Bool)(s':Shared)(Qu:Unit→Shared→Prop),Qu Unit.unit s'→wpAny (model P w) A (G b) Qu E s')→wpAny (model P w) A (do
   storeSet a es1 t2
   if (!wd&&t2.tooFull)=true then do
       G (relayAll t2 es1 (SetTable.grown es1.size)).2.2
       storeSet a (relayAll t2 es1 (SetTable.grown es1.size)).1 (relayAll t2 es1 (SetTable.grown es1.size)).2.1
       pure (some true)
   else pure (some true)) (fun r s'=>wpAny (model P w) A (match r with|some added=>pure added|none=>setAddHashedIn a (.str x tk) (hashStr w x) 99999) Q E s') E s:=by
   intro t2 G f2 l2 p2 hG
   obtain⟨d1,dd1⟩:=Ky (w:=w) hx hd f2 l2 p2 he1
   refine wpAny_bind (wpAny_storeSet_of ho hd ?_ s1)
   have g1:(s.heap.update a (Obj.putSet es1 t2)).get? a=some (Obj.putSet es1 t2 o):=qAY _ ho (by rw[putSet_of _ _ hd];rfl)
   by_cases c:(!wd&&t2.tooFull)=true
   ·rw[if_pos c]
    have rf:=relayAll_fits t2 es1 (SetTable.grown es1.size)
    have rp:=relayAll_perm t2 es1 (SetTable.grown es1.size)
    obtain⟨rl,rn⟩:=HM t2 es1 (SetTable.grown es1.size) p2
    generalize relayAll t2 es1 (SetTable.grown es1.size)=Y at rf rp rl rn ⊢
    obtain⟨es2,t3,gv⟩:=Y
    have rf:t3.fits es2.size=true:=rf
    have rl:t3.led=t2.led:=rl
    have rn:t3.plain=false:=rn
    obtain⟨l2',he2,pl2⟩:=II (f:=fun p:Str×Tok=>(hashStr w p.1,Value.str p.1 p.2)) (l:=l1) rp he1
    have s2:es2.size≤sizeLine:=by
     have:es2.size=es1.size:=by rw[←Array.length_toList,←Array.length_toList,rp.length_eq]
     omega
    obtain⟨d2,_⟩:=Ky (w:=w) (led:=led) d1.1 dd1 rf (rl.trans l2) rn he2
    refine wpAny_bind (hG _ _ _ ?_)
    refine wpAny_bind (wpAny_storeSet_of (s:={ s with heap:=s.heap.update a (Obj.putSet es1 t2) }) g1 dd1 (wpAny_pure (wpAny_pure ?_)) s2)
    exact h2 nx _ (Obj.putSet es2 t3 (Obj.putSet es1 t2 o)) (l2'.map (·.1)) ((Heap.SameBut.update _ _ _).trans (Heap.SameBut.update _ _ _)) (show((s.heap.update a (Obj.putSet es1 t2)).update a (Obj.putSet es2 t3)).get? a=_ from qAY _ g1 (by rw[putSet_of _ _ dd1];rfl)) d2 ((pl2.map (·.1)).trans px)
   ·rw[if_neg c]
    exact wpAny_pure (wpAny_pure (h2 nx _ (Obj.putSet es1 t2 o) (l1.map (·.1)) (Heap.SameBut.update _ _ _) g1 d1 px))
  dsimp only
  have step:wpAny (model P w) A (pure Unit.unit) (fun _ s'=>s'=s) E s:=wpAny_pure rfl
  cases gave with
  |true =>
   refine wpAny_bind (wpAny_rule ?_)
   by_cases c:t1.plain=true
   ·rw[if_pos c,hashByValue_scannable 8 rfl]
    refine wpAny_bind (wpAny_pure ?_)
    exact fin { t1 with plain:=false } _ (SetTable.fits_plain_off lf) (ll.trans hl) rfl (fun b s' Qu hq=>by cases b;exact wpAny_pure hq;exact wpAny_rule hq)
   ·rw[if_neg c]
    refine wpAny_bind (wpAny_pure ?_)
    exact fin t1 _ lf (ll.trans hl) (by simpa using c) (fun b s' Qu hq=>by cases b;exact wpAny_pure hq;exact wpAny_rule hq)
  |false =>
   refine wpAny_bind (wpAny_pure ?_)
   by_cases c:t1.plain=true
   ·rw[if_pos c,hashByValue_scannable 8 rfl]
    refine wpAny_bind (wpAny_pure ?_)
    exact fin { t1 with plain:=false } _ (SetTable.fits_plain_off lf) (ll.trans hl) rfl (fun b s' Qu hq=>by cases b;exact wpAny_pure hq;exact wpAny_rule hq)
   ·rw[if_neg c]
    refine wpAny_bind (wpAny_pure ?_)
    exact fin t1 _ lf (ll.trans hl) (by simpa using c) (fun b s' Qu hq=>by cases b;exact wpAny_pure hq;exact wpAny_rule hq)
end L3
namespace L3
open PySem PySem.Spec PyProof.Rows L2
theorem Nx {P:Program}{w:World}{A:Around} (hd:A.handled=none){S I l:Addr}{led:Bool}{tv:List (Str×Tok)}{R:Result→Shared→Prop} (hn:tv.length<4000) (n1:S≠I) (n2:S≠l) (n3:l≠I):∀(k i:Nat)(s:Shared)(xs:List Str)(o:Obj),tv.length-i=k→i≤tv.length →
 s.heap.IsListIter I l i→s.heap.IsList l (strValues tv).toArray→s.heap.get? S=some o→Nq w led o xs→xs.Nodup→xs.length≤i→(∀x,x∈xs ↔ x∈(tv.take i).map (·.1)) →
 (∀(h':Heap)(tk:Nat)(o':Obj)(xs':List Str),(∀b ob,b≠S→b≠I→s.heap.get? b=some ob→h'.get? b=some ob)→h'.get? S=some o'→Nq w led o' xs'→xs'.Nodup→xs'.length≤tv.length→(∀x,x∈xs' ↔ x∈tv.map (·.1))→R (.ok (.ret .none)) { s with heap:=h',toks:=tk }) →
 codeAny (model P w) A (.builtin "set.update.loop" ⟨[.ref S,.ref I],[]⟩) R s:=by
 intro k
 induction k with
 |zero =>
  intro i s xs o hk hi st hl ho hs nd le hm fin
  refine codeAny_builtin qBT ?_
  unfold Builtin.«set.update.loop»
  dsimp only
  have ei:i=tv.length:=()
  refine wpAny_bind (wpAny_pyNext_list_end (by exact hd) st hl (by rw[ei];simp[strValues]) fun h' ex=>?_)
  refine wpAny_pure ?_
  exact fin h' s.toks o xs (fun b ob b1 b2 e=>ex b ob b2 e) (ex S o n1 ho) hs nd () (fun x=>by rw[hm,ei,qCu])
 |succ k ih =>
  intro i s xs o hk hi st hl ho hs nd le hm fin
  refine codeAny_builtin qBT ?_
  unfold Builtin.«set.update.loop»
  dsimp only
  have il:i<tv.length:=()
  obtain⟨⟨x,tk⟩,ex⟩:∃p,tv[i]=p:=⟨_,rfl⟩
  refine wpAny_bind (wpAny_pyNext_list_item (x:=.str x tk) st hl (by simp[strValues,il,ex]) fun h' st' sb=>?_)
  dsimp only
  have g1:h'.get? S=some o:=(sb.2 S n1).trans ho
  have hl':h'.IsList l (strValues tv).toArray:=by
   obtain⟨ob,e1,r⟩:=hl
   exact⟨ob,(sb.2 l n3).trans e1,r⟩
  have mt:∀y,y∈(tv.take (i+1)).map (·.1) ↔ y∈(tv.take i).map (·.1)∨y=x:=fun y=>by
   rw[qBm,qAc il,ex]
   simp
  refine wpAny_bind (wpAny_holding ?_)
  unfold setAdd
  refine wpAny_holding (wpAny_bind ((strKind P w).pyHash (k:=x) (strKind_is P w x tk) ?_))
  refine OD (s:={ s with heap:=h',toks:=s.toks+1 }) g1 hs () (fun hx=>?_) (fun hx h2 o2 xs2 sb2 g2 d2 p2=>?_)
  ·refine wpAny_pure ⟨by kernel_rfl,?_⟩
   exact ih (i+1) { s with heap:=h',toks:=s.toks+1 } xs o () () st' hl' g1 hs nd () (fun y=>by
    rw[mt,←hm]
    exact⟨.inl,fun z=>z.elim id fun e=>e ▸ hx⟩) fun h3 tk3 o3 xs3 k3=>fin h3 tk3 o3 xs3 fun b ob b1 b2 e=>k3 b ob b1 b2 ((sb.2 b b2).trans e)
  ·refine wpAny_pure ⟨by kernel_rfl,?_⟩
   have st2:h2.IsListIter I l (i+1):=by
    obtain⟨ob,e1,r⟩:=st'
    exact⟨ob,(sb2.2 I (Ne.symm n1)).trans e1,r⟩
   have hl2:h2.IsList l (strValues tv).toArray:=by
    obtain⟨ob,e1,r⟩:=hl'
    exact⟨ob,(sb2.2 l (Ne.symm n2)).trans e1,r⟩
   exact ih (i+1) { s with heap:=h2,toks:=s.toks+1 } xs2 o2 () () st2 hl2 g2 d2 (p2.symm.nodup (qBu.mpr ⟨hx,nd⟩)) (by rw[p2.length_eq,qAd];omega) (fun y=>by
    rw[p2.mem_iff,qAq,mt,←hm]
    exact⟨fun z=>z.elim .inr .inl,fun z=>z.elim .inr .inl⟩) fun h3 tk3 o3 xs3 k3=>fin h3 tk3 o3 xs3 fun b ob b1 b2 e=>k3 b ob b1 b2 ((sb2.2 b b1).trans ((sb.2 b b2).trans e))
end L3
namespace L3
open PySem PySem.Spec PyProof.Rows L2
def byT (w:World):Bool:=w.params.followText "set-order"
theorem Pu {P:Program}{w:World} (l:Addr):MeetsIn P w (Builtin.«set.__new__» ⟨[.type "set",.ref l],[]⟩) (fun _ R s=>R (.ok (.ret (.ref s.heap.objs.size))) { s with heap:=s.heap.push { cls:=.type "set",data:=.set #[] 0 (SetTable.fresh 0 0 !byT w) } }) :=
 .of_wp fun A R s h=>by
  obtain⟨hp,g,d,tk,os⟩:=s
  have hsub:=F.sub_set_set
  wp_walk
  refine wpAny_askSetting ?_
  wp_walk
  exact⟨_,rfl,h⟩
def L7 (led:Bool):Obj:={ cls:=.type "set",data:=.set #[] 0 (SetTable.fresh 0 0 led) }
theorem NB (w:World)(led:Bool):Nq w led (L7 led) []:=⟨⟨rfl,rfl,rfl⟩,#[],0,SetTable.fresh 0 0 led,rfl,by cases led<;>rfl,rfl,fun z=>absurd rfl z,[],rfl,rfl⟩
theorem Mr {S l:Addr}{led:Bool}{tv:List (Str×Tok)}:Meets (Builtin.«set.__init__» ⟨[.ref S,.ref l],[]⟩) (fun A R s=>A.handled=none∧s.heap.IsList l (strValues tv).toArray∧s.heap.get? S=some (L7 led)∧tv.length<4000∧S≠l ∧
 ∀(w:World)(h':Heap)(tk:Nat)(o':Obj)(xs':List Str),(∀b ob,b≠S→s.heap.get? b=some ob→h'.get? b=some ob)→h'.get? S=some o'→Nq w led o' xs'→xs'.Nodup→xs'.length≤tv.length→(∀x,x∈xs' ↔ x∈tv.map (·.1))→R (.ok (.ret .none)) { s with heap:=h',toks:=tk }) :=
 .of_wp fun prog w A R s h=>by
  obtain⟨hp,g,d,tk,os⟩:=s
  obtain⟨hd,h1,h2,hn,n2,fin⟩:=h
  have h2:Heap.get? (Shared.heap ⟨hp,g,d,tk,os⟩) S=some (L7 led):=h2
  have hsub:=F.sub_list_set
  have hsub2:=F.sub_list_frozenset
  have ty:=h1.typeIs (s:=⟨hp,g,d,tk,os⟩)
  have q1:Heap.IsList (Shared.heap ⟨hp,g,d,tk,os⟩) l (strValues tv).toArray:=h1
  wp_walk using wpAny_loadPart_at h2,wpAny_typeOf ty,wpAny_pyIter_list q1
  have lS:S<hp.objs.size:=qAh h2
  have ll:l<hp.objs.size:=by
   obtain⟨ob,e1,_⟩:=q1
   exact qAh e1
  refine Nx (A:=A.in1) (led:=led) (tv:=tv) hd hn (qAo lS) n2 (qAo ll) tv.length 0 _ [] (L7 led) rfl (qAw _) ⟨_,qAm _ rfl,rfl,rfl⟩ ?_ (qAb _ h2) (NB w led) List.nodup_nil (qAg _) (fun x=>by simp) fun h' tk' o' xs' kp ho' hs' nd le hm=>?_
  ·exact Heap.IsList.push q1 _
  ·exact wpAny_pure (wpAny_pure ⟨_,rfl,fin w h' tk' o' xs' (fun b ob bS e=>kp b ob bS (qAo (qAh e)) (qAb _ e)) ho' hs' nd le hm⟩)
theorem Nk {P:Program}{w:World}{A:Around}{E:Value→Shared→Prop}{s:Shared} (l:Addr){Q₁:Value→Shared→Prop} (h:Q₁ (.ref s.heap.objs.size) { s with heap:=s.heap.push (L7 (!byT w)) }):codeAny (model P w) A (.call (.builtin "set.__new__") ⟨[.type "set",.ref l],[]⟩) (wants Q₁ E) s:=by
 refine codeAny_call_builtin F.called_set.plain F.entry_set_new ?_
 rw[F.newCall_set_1]
 refine wpAny_pure ?_
 exact Pu l A (wants Q₁ E) s h
theorem Lh {P:Program}{w:World}{A:Around}{E:Value→Shared→Prop}{s:Shared}{S l:Addr}{led:Bool}{tv:List (Str×Tok)}{Q₁:Value→Shared→Prop} (ty:s.TypeIs (.ref S) "set") (hd:A.handled=none) (hl:s.heap.IsList l (strValues tv).toArray) (hS:s.heap.get? S=some (L7 led)) (hn:tv.length<4000) (n2:S≠l)
 (fin:∀(w:World)(h':Heap)(tk:Nat)(o':Obj)(xs':List Str),(∀b ob,b≠S→s.heap.get? b=some ob→h'.get? b=some ob)→h'.get? S=some o'→Nq w led o' xs'→xs'.Nodup→xs'.length≤tv.length→(∀x,x∈xs' ↔ x∈tv.map (·.1))→Q₁ .none { s with heap:=h',toks:=tk }) :
 codeAny (model P w) A (.call (.builtin "set.__init__") ⟨[.ref S,.ref l],[]⟩) (wants Q₁ E) s:=by
 refine codeAny_call_builtin F.called_set.init.plain F.entry_set_init ?_
 refine check_set_init_1 ty ?_
 exact Mr (led:=led) (tv:=tv) P w A (wants Q₁ E) s ⟨hd,hl,hS,hn,n2,fin⟩
theorem MP {P:Program}{w:World}{A:Around}{E:Value→Shared→Prop}{s:Shared}{l:Addr}{tv:List (Str×Tok)}{Q:Value→Shared→Prop} (hd:A.handled=none) (hl:s.heap.IsList l (strValues tv).toArray) (hn:tv.length<4000)
 (fin:∀(h':Heap)(tk:Nat)(o':Obj)(xs':List Str)(w':World),(∀b ob,s.heap.get? b=some ob→h'.get? b=some ob)→h'.get? s.heap.objs.size=some o'→Nq w' (!byT w) o' xs'→xs'.Nodup→xs'.length≤tv.length→(∀x,x∈xs' ↔ x∈tv.map (·.1))→Q (.ref s.heap.objs.size) { s with heap:=h',toks:=tk }) :
 wpAny (model P w) A (call (.type "set") [.ref l]) Q E s:=by
 have ll:l<s.heap.objs.size:=by
  obtain⟨ob,e1,_⟩:=hl
  exact qAh e1
 have g0:(s.heap.push (L7 (!byT w))).get? s.heap.objs.size=some (L7 (!byT w)):=qAm _ rfl
 have hc:=F.called_set
 obtain⟨c0,tl0,hmro⟩:=hc.mro
 refine wpAny_call (codeAny_of_tree ?_)
 refine wpAny_pure ⟨by kernel_rfl,?_⟩
 refine codeAny_builtin F.entry_type_call ?_
 rw[Around.under_plain (weight_type_call_type _ _ _) (by kernel_rfl)]
 unfold Builtin.«type.__call__»
 dsimp only
 rw[if_neg (show ¬(Value.type "set" == Value.type "type")=true by rw[hc.notType];exact qAe)]
 rw[if_neg (show ¬_=true by rw[hc.canCreate];exact qAe)]
 rw[F.typeCall_set_1]
 refine wpAny_bind (wpAny_pure ?_)
 rw[hmro]
 refine wpAny_bind (wpAny_pure ?_)
 rw[if_neg (show ¬(c0::tl0).isEmpty=true from qAe),hc.made]
 refine wpAny_bind (wpAny_pure ?_)
 dsimp only
 refine wpAny_bind (wpAny_pure ?_)
 refine wpAny_bind (wpAny_holding (wpAny_call ?_))
 refine Nk l ?_
 have ty:Shared.TypeIs { s with heap:=s.heap.push (L7 (!byT w)) } (.ref s.heap.objs.size) "set":=⟨_,g0,rfl⟩
 refine wpAny_bind (wpAny_isInstance ty hc.sub ?_)
 rw[if_neg (show ¬(!true)=true from qAe)]
 refine wpAny_bind (wpAny_holding (wpAny_callSpecial?_slot ty hc.init (wpAny_call ?_)))
 refine Lh (s:={ s with heap:=s.heap.push (L7 (!byT w)) }) (led:=!byT w) (tv:=tv) ty hd (Heap.IsList.push hl _) g0 hn (qBq ll) fun w' h' tk o' xs' kp ho' hs' nd le hm=>?_
 dsimp only
 rw[if_neg (show ¬(Value.none != Value.none)=true from ∅)]
 exact wpAny_pure (fin h' tk o' xs' w' (fun b ob e=>kp b ob (qAo (qAh e)) (qAb _ e)) ho' hs' nd le hm)
end L3
namespace L3
open PySem PySem.Spec PyProof.Rows L2
theorem E7 {α:Type}{l:List α}{i:Nat}{x:α} (h:l[i]? = some x):(x::l.eraseIdx i).Perm l:=by
 induction l generalizing i with
 |nil=>cases h
 |cons a l ih =>
  cases i with
  |zero=>cases h;exact .refl _
  |succ i =>
   rw[qBY] at h
   rw[qCB]
   exact(List.Perm.swap a x _).trans ((ih h).cons a)
theorem Kw {α:Type} (next:Nat→Nat):∀(n k:Nat)(l:List α)(out:Array α),l.length=n→(pickOrder.go next n k l out).toList.Perm (out.toList++l):=by
 intro n
 induction n with
 |zero =>
  intro k l out hl
  rw[pickOrder.go.eq_def,qAA hl,qA0]
 |succ n ih =>
  intro k l out hl
  rw[pickOrder.go.eq_def]
  dsimp only
  have hi:next k%l.length<l.length:=Nat.mod_lt _ ()
  rw[qAc hi]
  dsimp only
  have p:=E7 (qAc hi)
  refine(ih (k+1) _ _ (by rw[List.length_eraseIdx,if_pos hi];omega)).trans ?_
  rw[Array.toList_push,qBZ]
  exact List.Perm.append_left _ p
theorem G3 {M:Model}{A:Around}{E:Value→Shared→Prop}{s:Shared}{src:Source}{n:Nat}{Q:Nat→Shared→Prop} (hn:0<n) (h:∀(i:Nat)(d:Drawn),i<n→Q i { s with drawn:=d }):wpAny M A (choose src n) Q E s:=by
 intro Γ p hΓ
 unfold choose
 rw[Sem.wp_choose]
 exact⟨(),h _ _ (Nat.mod_lt _ hn)⟩
theorem JZ {α:Type}{M:Model}{A:Around}{E:Value→Shared→Prop}:∀(n:Nat)(l:List α)(s:Shared)(Q:List α→Shared→Prop),l.length=n→(∀(l':List α)(d:Drawn),l'.Perm l→Q l' { s with drawn:=d })→wpAny M A (drawOrder n l) Q E s:=by
 intro n
 induction n with
 |zero =>
  intro l s Q hl h
  rw[qAA hl] at h
  exact wpAny_pure (h [] s.drawn (.refl _))
 |succ n ih =>
  intro l s Q hl h
  cases l with
  |nil=>cases hl
  |cons a l =>
   show wpAny M A (do
    let i ←choose .order (a::l).length
    match (a::l)[i]? with
    |some x=>do
     let r ←drawOrder n ((a::l).eraseIdx i)
     pure (x::r)
    |none=>unsupported "internal:drawOrder") Q E s
   refine wpAny_bind (G3 (Nat.succ_pos _) fun i d hi=>?_)
   rw[qAc hi]
   dsimp only
   refine wpAny_bind (ih _ _ _ (by rw[List.length_eraseIdx,if_pos hi];omega) fun l' d' p=>?_)
   exact wpAny_pure (h _ d' ((p.cons _).trans (E7 (qAc hi))))
end L3
namespace L3
open PySem PySem.Spec PyProof.Rows L2
theorem AG:Slot "set_iterator" (Str.ofString "__next__") "set_iterator.__next__":=by
 refine Slot.of (owner:="set_iterator") (n:="__next__") ?_ ?_ ?_ ?_ (Or.inl ?_) ?_ ?_
 ·rw[typeLookup_type,builtinLookup_eq_fast];kernel_rfl
 ·kernel_rfl
 ·kernel_rfl
 ·kernel_rfl
 ·kernel_rfl
 ·rw[isSubtype_type];kernel_rfl
 ·kernel_rfl
end L3
namespace L3
open PySem PySem.Spec PyProof.Rows L2
theorem BE:entryFor table "set_iterator.__next__"=some Builtin.«set_iterator.__next__»:=entryFor_of_tree (by kernel_rfl)
theorem Gi:entryFor table "set.__iter__"=some Builtin.«frozenset.__iter__»:=entryFor_alias (id':="frozenset.__iter__") (by kernel_rfl) (by kernel_rfl) (by kernel_rfl) (by kernel_rfl)
def itO (first:Value)(i:Int)(S:Addr)(n ep:Nat):Obj:={ cls:=.type "set_iterator",data:=.fields #[first,rawInt i,.ref S,rawInt n,rawInt ep] }
def plO (l:List Nat):Obj:={ cls:=.type "tuple",data:=.seq (l.map fun(i:Nat)=>rawInt i).toArray }
theorem ML {P:Program}{w:World}{A:Around}{E:Value→Shared→Prop}{s:Shared}{S:Addr}{o:Obj}{es:Array (Int×Value)}{ep:Nat}{t:SetTable}{Q:Value→Shared→Prop} (ho:s.heap.get? S=some o) (hx:o.ExactSet) (hd:o.data=Data.set es ep t) (hf:t.fits es.size=true) (hp:1<es.size→t.plain=false) (hz:es.size≤4096)
 (h1:byT w=false→1<es.size→∀(l:List Nat)(d:Drawn),l.Perm (List.range es.size)→Q (.ref (s.heap.objs.size+1)) { s with heap:=(s.heap.push (plO l)).push (itO (.ref s.heap.objs.size) 0 S es.size ep),drawn:=d })
 (h2:byT w=true∨es.size≤1→Q (.ref s.heap.objs.size) { s with heap:=s.heap.push (itO (rawInt 0) 0 S es.size ep) }) :
 wpAny (model P w) A (pyIter (.ref S)) Q E s:=by
 have ty:s.TypeIs (.ref S) "set":=⟨o,ho,hx.1⟩
 refine wpAny_pyIter_slot ty F.slot_set_iter (wpAny_call_entry F.slot_set_iter ty Gi ?_ (F.args_set_iter_1 _))
 unfold Builtin.«frozenset.__iter__»
 obtain⟨hp',g,d,tk,os⟩:=s
 have q1:Heap.get? (Shared.heap ⟨hp',g,d,tk,os⟩) S=some o:=ho
 wp_walk using wpAny_setEntries_of q1 hd hf,wpAny_setState_of q1 hd hf
 refine wpAny_askSetting (wpAny_pure (wpAny_pure ?_))
 have hb:(model P w).w.params.followText "set-order"=byT w:=rfl
 rw[hb]
 have fin:∀(h:Heap)(dd:Drawn)(first:Value),h.get? S=some o→Q (.ref h.objs.size) ⟨h.push (itO first 0 S es.size ep),g,dd,tk,os⟩→wpAny (model P w) A.in1 (do
  let e ←setEpoch S
  let r ←newFields "set_iterator" [first,rawInt 0,Value.ref S,rawInt ↑es.size,rawInt ↑e]
  ret r) (fun fin s'=>∃v,fin=PySem.Fin.done (Flow.ret v)∧∃T' r,s'.TypeIs v T'∧typeLookup (Value.type T') (Str.ofString "__next__")=pure (some r)∧Q v s') E ⟨h,g,dd,tk,os⟩:=by
  intro h dd first hg hq
  have q2:Heap.get? (Shared.heap ⟨h,g,dd,tk,os⟩) S=some o:=hg
  wp_walk using wpAny_setState_of q2 hd hf
  exact⟨_,rfl,"set_iterator",_,⟨_,qAm _ rfl,rfl⟩,AG.lookup,hq⟩
 by_cases c:byT w=false∧1<es.size
 ·dsimp only
  have e:(!byT w&&(!t.plain&&decide (es.size>1)))=true:=by rw[c.1,hp c.2];simpa using c.2
  refine wpAny_ite_true (decide_eq_true e) ?_
  refine wpAny_bind (JZ es.size _ _ _ (by simp) fun l dd p=>?_)
  refine wpAny_bind ?_
  have gs:Heap.get? (hp'.push (plO l)) S=some o:=qAb _ ho
  have:=fin (hp'.push (plO l)) dd (.ref hp'.objs.size) gs (by rw[qBU];exact h1 c.1 c.2 l dd p)
  have sl:¬(List.map (fun(i:Nat)=>rawInt ↑i) l).toArray.size>sizeLine:=by
   have sL:(4097:Nat)≤sizeLine:=∅
   have:=p.length_eq
   simp at this ⊢
   omega
  have sl2:(List.map (fun(i:Nat)=>rawInt ↑i) l).length≤sizeLine:=by simpa using qBF sl
  exact wpAny_newTuple (hsz:=sl2) this
 ·dsimp only
  have e:¬(!byT w&&(!t.plain&&decide (es.size>1)))=true:=fun z=>c (by
   rw[qAF,qAF] at z
   exact⟨by simpa using z.1,by simpa using z.2.2⟩)
  refine wpAny_ite_false (decide_eq_false e) ?_
  refine wpAny_bind (wpAny_pure ?_)
  exact fin hp' d (rawInt 0) ho (h2 (by
   by_cases z:byT w=true
   ·exact .inl z
   ·exact .inr (qBF fun z'=>c ⟨by simpa using z,z'⟩)))
end L3
namespace L3
open PySem PySem.Spec PyProof.Rows L2
theorem CS (a:Value):argsOk "set_iterator.__next__" ⟨[a],[]⟩:=by
 unfold argsOk
 rw[signature?_of (id:="set_iterator.__next__") (n:=['_','_','t','x','e','n','_','_']) (o:=['r','o','t','a','r','e','t','i','_','t','e','s']) (rows:=Manifest.sig_set_iterator) (by kernel_rfl) (by kernel_rfl)]
 kernel_rfl
section
variable {P:Program}{w:World}{A:Around}{E:Value→Shared→Prop}{s:Shared}{I S T:Addr}{o:Obj}{es:Array (Int×Value)}{ep:Nat}{t:SetTable}
theorem Nh {h0:Int}{x:Value}{p e:Nat}{Q:Value→Shared→Prop} (hS:s.heap.get? S=some o) (hd:o.data=Data.set es ep t) (hf:t.fits es.size=true) (ee:e=ep) (he:es[p]? = some (h0,x)) (q:Q x s):wpAny (model P w) A (setNextDrawn S p e) Q E s:=by
 subst ee
 unfold setNextDrawn
 refine wpAny_bind (wpAny_setState_of hS hd hf ?_)
 dsimp only
 rw[if_neg (by simp),he]
 exact wpAny_pure q
theorem Ng {first:Value}{i:Nat}{n:Nat}{Q:Unit→Shared→Prop} (hI:s.heap.get? I=some (itO first i S n ep)) (q:∀h',h'.get? I=some (itO first ((i+1:Nat):Int) S n ep)→Heap.SameBut I s.heap h'→Q Unit.unit { s with heap:=h' }):wpAny (model P w) A (setField (.ref I) 1 (rawInt (↑i+1))) Q E s:=by
 refine wpAny_setField hI rfl (by simp) (q _ ?_ (Heap.SameBut.update ..))
 have g3:(itO first i S n ep).data=Data.fields #[first,rawInt i,.ref S,rawInt n,rawInt ep]:=rfl
 refine(qAY _ hI (Obj.isFreed_of_fields (Obj.data_mapFields g3 _))).trans ?_
 rfl
theorem Jp {l:List Nat}{i:Nat}{h0:Int}{x:Value}{p:Nat}{Q:Option Value→Shared→Prop} (hI:s.heap.get? I=some (itO (.ref T) i S es.size ep)) (hT:s.heap.get? T=some (plO l)) (hS:s.heap.get? S=some o) (hd:o.data=Data.set es ep t) (hf:t.fits es.size=true) (hp:l[i]? = some p) (he:es[p]? = some (h0,x))
 (q:∀h',h'.get? I=some (itO (.ref T) ((i+1:Nat):Int) S es.size ep)→Heap.SameBut I s.heap h'→Q (some x) { s with heap:=h' }):wpAny (model P w) A (pyNext (.ref I)) Q E s:=by
 have ty:s.TypeIs (.ref I) "set_iterator":=⟨_,hI,rfl⟩
 unfold pyNext
 refine wpAny_bind (wpAny_attempt (wpAny_callSpecial?_slot (name:=Str.ofString "__next__") ty AG (wpAny_call_entry AG ty BE ?_ (CS _))))
 unfold Builtin.«set_iterator.__next__»
 obtain⟨hp',g,d,tk,os⟩:=s
 have q1:Heap.get? (Shared.heap ⟨hp',g,d,tk,os⟩) S=some o:=hS
 have q2:Heap.get? (Shared.heap ⟨hp',g,d,tk,os⟩) I=some (itO (.ref T) i S es.size ep):=hI
 have q3:Heap.get? (Shared.heap ⟨hp',g,d,tk,os⟩) T=some (plO l):=hT
 wp_walk using wpAny_setEntries_of q1 hd hf,wpAny_setState_of q1 hd hf,wpAny_loadPart_at q2,wpAny_loadPart_at q3
 have e1:(List.map (fun(i:Nat)=>rawInt ↑i) l).toArray[((i:Nat):Int).toNat]? = some (.int p 0):=by
  rw[qAO,qB4,qAl,hp]
  rfl
 rw[e1]
 dsimp only
 refine wpAny_bind (Nh q1 hd hf (qAO _) (by rw[qAO];exact he) ?_)
 refine wpAny_bind (Ng q2 fun h' g1 sb=>?_)
 exact wpAny_pure ⟨x,rfl,wpAny_pure (q h' g1 sb)⟩
theorem SI {α:Type}{Q':α→Shared→Prop}{E':Value→Shared→Prop} (hd:A.handled=none) (q:∀(h':Heap)(e:Addr),(∀b ob,s.heap.get? b=some ob→h'.get? b=some ob)→(∃o,h'.get? e=some o∧o.cls=.type "StopIteration")→E' (.ref e) { s with heap:=h' }):wpAny (model P w) A (do
 let e ←newExc (.type "StopIteration") []
 (raiseNew e:Sem α)) Q' E' s:=by
 refine(wpAny_bind ?_:wpAny _ _ (newExc (.type "StopIteration") [] >>= _) _ _ _)
 simp only[newExc,newTuple]
 refine wpAny_bind (wpAny_newObj_type ?_ (by size_fits))
 refine wpAny_bind (m:=firstArgMember _ _) (wpAny_of_eq (a:=Value.none) (by first|rfl|(unfold firstArgMember;rfl)) ?_)
 refine wpAny_newObj_type ?_ (by size_fits)
 unfold raiseNew
 refine wpAny_bind (wpAny_handled ?_)
 rw[hd]
 exact wpAny_bind (wpAny_pure (wpAny_throw (q _ _ (fun b ob e=>qAb _ (qAb _ e)) ⟨_,qAm _ rfl,rfl⟩)))
theorem DR {e:Addr}{Q:Option Value→Shared→Prop} (h:∃o,s.heap.get? e=some o∧o.cls=.type "StopIteration") (q:Q none s):wpAny (model P w) A (do
 let b ←isInstance (.ref e) (.type "StopIteration")
 if b=true then pure none else throw (.ref e)) Q E s:=by
 obtain⟨ob,h1,h2⟩:=h
 have ty:s.TypeIs (.ref e) "StopIteration":=⟨ob,h1,h2⟩
 refine wpAny_bind (wpAny_isInstance (b:=true) ty (by rw[isSubtype_type];kernel_rfl) ?_)
 rw[if_pos rfl]
 exact wpAny_pure q
theorem J7 {l:List Nat}{i:Nat}{Q:Option Value→Shared→Prop} (hh:A.handled=none) (hI:s.heap.get? I=some (itO (.ref T) i S es.size ep)) (hT:s.heap.get? T=some (plO l)) (hS:s.heap.get? S=some o) (hd:o.data=Data.set es ep t) (hf:t.fits es.size=true) (hp:l[i]? = none)
 (q:∀h',(∀b ob,b≠I→s.heap.get? b=some ob→h'.get? b=some ob)→Q none { s with heap:=h' }):wpAny (model P w) A (pyNext (.ref I)) Q E s:=by
 have ty:s.TypeIs (.ref I) "set_iterator":=⟨_,hI,rfl⟩
 unfold pyNext
 refine wpAny_bind (wpAny_attempt (wpAny_callSpecial?_slot (name:=Str.ofString "__next__") ty AG (wpAny_call_entry AG ty BE ?_ (CS _))))
 unfold Builtin.«set_iterator.__next__»
 obtain⟨hp',g,d,tk,os⟩:=s
 have q1:Heap.get? (Shared.heap ⟨hp',g,d,tk,os⟩) S=some o:=hS
 have q2:Heap.get? (Shared.heap ⟨hp',g,d,tk,os⟩) I=some (itO (.ref T) i S es.size ep):=hI
 have q3:Heap.get? (Shared.heap ⟨hp',g,d,tk,os⟩) T=some (plO l):=hT
 wp_walk using wpAny_setEntries_of q1 hd hf,wpAny_setState_of q1 hd hf,wpAny_loadPart_at q2,wpAny_loadPart_at q3
 have e1:(List.map (fun(i:Nat)=>rawInt ↑i) l).toArray[((i:Nat):Int).toNat]? = none:=by
  rw[qAO,qB4,qAl,hp]
  rfl
 rw[e1]
 dsimp only
 have g3:(itO (.ref T) i S es.size ep).data=Data.fields #[.ref T,rawInt i,.ref S,rawInt es.size,rawInt ep]:=rfl
 refine wpAny_bind (wpAny_setField hI g3 (by simp) ?_)
 have hI2:=qAY _ hI (Obj.isFreed_of_fields (Obj.data_mapFields g3 (fun fs=>fs.setIfInBounds 0 (rawInt 0))))
 refine wpAny_bind (wpAny_setField hI2 (Obj.data_mapFields g3 _) (by simp) ?_)
 refine SI (A:=A.in1) hh fun h' e kp st=>?_
 exact DR st (q h' fun b ob bI eb=>kp b ob (by
  show((Heap.update _ I _).update I _).get? b=some ob
  rw[qCd _ _ _ _ bI,qCd _ _ _ _ bI]
  exact eb))
end
end L3
namespace L3
open PySem PySem.Spec PyProof.Rows L2
section
variable {P:Program}{w:World}{A:Around}{E:Value→Shared→Prop}{s:Shared}{I S T:Addr}{o:Obj}{es:Array (Int×Value)}{ep:Nat}{t:SetTable}
theorem KZ {sl nx i:Nat}{x:Value}{Q:Option Value→Shared→Prop} (hI:s.heap.get? I=some (itO (rawInt sl) i S es.size ep)) (hS:s.heap.get? S=some o) (hd:o.data=Data.set es ep t) (hf:t.fits es.size=true)
 (hn:∀{A':Around}{Q':Option (Value×Nat)→Shared→Prop}{E':Value→Shared→Prop},Q' (some (x,nx)) s→wpAny (model P w) A' (setNext S sl i ep) Q' E' s)
 (q:∀h',h'.get? I=some (itO (rawInt nx) ((i+1:Nat):Int) S es.size ep)→Heap.SameBut I s.heap h'→Q (some x) { s with heap:=h' }):wpAny (model P w) A (pyNext (.ref I)) Q E s:=by
 have ty:s.TypeIs (.ref I) "set_iterator":=⟨_,hI,rfl⟩
 unfold pyNext
 refine wpAny_bind (wpAny_attempt (wpAny_callSpecial?_slot (name:=Str.ofString "__next__") ty AG (wpAny_call_entry AG ty BE ?_ (CS _))))
 unfold Builtin.«set_iterator.__next__»
 obtain⟨hp',g,d,tk,os⟩:=s
 have q1:Heap.get? (Shared.heap ⟨hp',g,d,tk,os⟩) S=some o:=hS
 have q2:Heap.get? (Shared.heap ⟨hp',g,d,tk,os⟩) I=some (itO (rawInt sl) i S es.size ep):=hI
 have hn':∀{A':Around}{Q':Option (Value×Nat)→Shared→Prop}{E':Value→Shared→Prop},Q' (some (x,nx)) ⟨hp',g,d,tk,os⟩→wpAny (model P w) A' (setNext S ((sl:Nat):Int).toNat ((i:Nat):Int).toNat ((ep:Nat):Int).toNat) Q' E' ⟨hp',g,d,tk,os⟩:=fun h=>by
  rw[qAO,qAO,qAO]
  exact hn h
 wp_walk using hn',wpAny_setEntries_of q1 hd hf,wpAny_loadPart_at q2
 have g3:(itO (rawInt sl) i S es.size ep).data=Data.fields #[rawInt sl,rawInt i,.ref S,rawInt es.size,rawInt ep]:=rfl
 have hI2:=qAY _ hI (Obj.isFreed_of_fields (Obj.data_mapFields g3 (fun fs=>fs.setIfInBounds 0 (rawInt nx))))
 refine⟨_,rfl,wpAny_pure (q _ ?_ ((Heap.SameBut.update _ _ _).trans (Heap.SameBut.update _ _ _)))⟩
 exact(qAY _ hI2 (Obj.isFreed_of_fields (Obj.data_mapFields (Obj.data_mapFields g3 _) _))).trans rfl
theorem MG {sl i:Nat}{Q:Option Value→Shared→Prop} (hh:A.handled=none) (hI:s.heap.get? I=some (itO (rawInt sl) i S es.size ep)) (hS:s.heap.get? S=some o) (hd:o.data=Data.set es ep t) (hf:t.fits es.size=true)
 (hn:∀{A':Around}{Q':Option (Value×Nat)→Shared→Prop}{E':Value→Shared→Prop},Q' none s→wpAny (model P w) A' (setNext S sl i ep) Q' E' s)
 (q:∀h',(∀b ob,b≠I→s.heap.get? b=some ob→h'.get? b=some ob)→Q none { s with heap:=h' }):wpAny (model P w) A (pyNext (.ref I)) Q E s:=by
 have ty:s.TypeIs (.ref I) "set_iterator":=⟨_,hI,rfl⟩
 unfold pyNext
 refine wpAny_bind (wpAny_attempt (wpAny_callSpecial?_slot (name:=Str.ofString "__next__") ty AG (wpAny_call_entry AG ty BE ?_ (CS _))))
 unfold Builtin.«set_iterator.__next__»
 obtain⟨hp',g,d,tk,os⟩:=s
 have q1:Heap.get? (Shared.heap ⟨hp',g,d,tk,os⟩) S=some o:=hS
 have q2:Heap.get? (Shared.heap ⟨hp',g,d,tk,os⟩) I=some (itO (rawInt sl) i S es.size ep):=hI
 have g3:(itO (rawInt sl) i S es.size ep).data=Data.fields #[rawInt sl,rawInt i,.ref S,rawInt es.size,rawInt ep]:=rfl
 have fin:∀{Q':PySem.Fin→Shared→Prop},wpAny (model P w) A.in1 (do
  setField (.ref I) 2 Value.none
  let e ←newExc (.type "StopIteration") []
  raiseNew e) Q' (fun e s'=>wpAny (model P w) A (do
   let b ←isInstance e (.type "StopIteration")
   if b=true then pure none else throw e) Q E s') ⟨hp',g,d,tk,os⟩:=fun {Q'}=>by
  refine wpAny_bind (wpAny_setField hI g3 (by simp) ?_)
  refine SI (A:=A.in1) hh fun h' e kp st=>?_
  exact DR st (q h' fun b ob bI eb=>kp b ob (by
   show(Heap.update _ I _).get? b=some ob
   rw[qCd _ _ _ _ bI]
   exact eb))
 have hn':∀{A':Around}{Q':Option (Value×Nat)→Shared→Prop}{E':Value→Shared→Prop},Q' none ⟨hp',g,d,tk,os⟩→wpAny (model P w) A' (setNext S ((sl:Nat):Int).toNat ((i:Nat):Int).toNat ((ep:Nat):Int).toNat) Q' E' ⟨hp',g,d,tk,os⟩:=fun h=>by
  rw[qAO,qAO,qAO]
  exact hn h
 wp_walk using hn',fin,wpAny_setEntries_of q1 hd hf,wpAny_loadPart_at q2
end
end L3
namespace L3
open PySem PySem.Spec PyProof.Rows L2
section
variable {P:Program}{w:World}{A:Around}{E:Value→Shared→Prop}{s:Shared}{I S T:Addr}{o:Obj}{es:Array (Int×Value)}{ep:Nat}{t:SetTable}
theorem U9 {Q:Bool→Shared→Prop} (q:Q (byT w) s):wpAny (model P w) A setsByText Q E s:=by
 unfold setsByText
 exact wpAny_bind (wpAny_askSetting (wpAny_pure q))
theorem OG {sl i:Nat}{Q:Option (Value×Nat)→Shared→Prop} (hb:byT w=true) (hS:s.heap.get? S=some o) (hd:o.data=Data.set es ep t) (hf:t.fits es.size=true)
 (q:Q (((pickOrder (w.params.setOrder S ep) es)[i]?).map fun e=>(e.snd,sl)) s):wpAny (model P w) A (setNext S sl i ep) Q E s:=by
 unfold setNext
 refine wpAny_bind (wpAny_setState_of hS hd hf ?_)
 dsimp only
 refine wpAny_bind (U9 ?_)
 rw[hb,if_pos rfl,if_neg (by simp)]
 unfold setWalk
 refine wpAny_bind (wpAny_bind (wpAny_setState_of hS hd hf ?_))
 dsimp only
 refine wpAny_bind (U9 ?_)
 rw[hb,if_pos rfl]
 exact wpAny_bind (wpAny_askSetting (wpAny_pure (wpAny_pure q)))
theorem Lu {sl i:Nat}{Q:Option (Value×Nat)→Shared→Prop} (hb:byT w=false) (hS:s.heap.get? S=some o) (hd:o.data=Data.set es ep t) (hf:t.fits es.size=true) (hz:es.size≤1) (hl:t.led=true)
 (q:Q (match es[SetTable.below t.place sl]?,t.place[SetTable.below t.place sl]? with
  |some (_,x),some j=>some (x,j+1)
  |_,_=>none) s):wpAny (model P w) A (setNext S sl i ep) Q E s:=by
 unfold setNext
 refine wpAny_bind (wpAny_setState_of hS hd hf ?_)
 dsimp only
 refine wpAny_bind (U9 ?_)
 rw[hb,if_neg qAe]
 have e1:¬(!t.plain&&decide (es.size>1))=true:=by
  rw[decide_eq_false (),qBV];exact qAe
 refine wpAny_ite_false (decide_eq_false e1) ?_
 have e2:¬(!t.led && !es.isEmpty)=true:=by rw[hl];simp
 refine wpAny_bind (?_:wpAny (model P w) A (if (!t.led && !es.isEmpty)=true then PySem.unsupported "set:maker-not-led" else pure Unit.unit) _ _ _)
 rw[if_neg e2]
 exact wpAny_pure (wpAny_pure q)
end
end L3
namespace L3
open PySem PySem.Spec PyProof.Rows L2
theorem Jh:Slot "set_iterator" (Str.ofString "__iter__") "set_iterator.__iter__":=by
 refine Slot.of (owner:="set_iterator") (n:="__iter__") ?_ ?_ ?_ ?_ (Or.inl ?_) ?_ ?_
 ·rw[typeLookup_type,builtinLookup_eq_fast];kernel_rfl
 ·kernel_rfl
 ·kernel_rfl
 ·kernel_rfl
 ·kernel_rfl
 ·rw[isSubtype_type];kernel_rfl
 ·kernel_rfl
theorem Km:entryFor table "set_iterator.__iter__"=some Builtin.«dict_keyiterator.__iter__»:=entryFor_alias (id':="dict_keyiterator.__iter__") (by kernel_rfl) (by kernel_rfl) (by kernel_rfl) (by kernel_rfl)
theorem SF (a:Value):argsOk "set_iterator.__iter__" ⟨[a],[]⟩:=by
 unfold argsOk
 rw[signature?_of (id:="set_iterator.__iter__") (n:=['_','_','r','e','t','i','_','_']) (o:=['r','o','t','a','r','e','t','i','_','t','e','s']) (rows:=Manifest.sig_set_iterator) (by kernel_rfl) (by kernel_rfl)]
 kernel_rfl
section
variable {P:Program}{w:World}{A:Around}{I S T:Addr}{o:Obj}{es:Array (Int×Value)}{ep:Nat}{t:SetTable}
theorem GX {E:Value→Shared→Prop}{s:Shared}{first:Value}{i:Int}{n:Nat}{Q:Value→Shared→Prop} (hI:s.heap.get? I=some (itO first i S n ep)) (q:Q (.ref I) s):wpAny (model P w) A (pyIter (.ref I)) Q E s:=by
 have ty:s.TypeIs (.ref I) "set_iterator":=⟨_,hI,rfl⟩
 refine wpAny_pyIter_slot ty Jh (wpAny_call_entry Jh ty Km ?_ (SF _))
 unfold Builtin.«dict_keyiterator.__iter__»
 wp_walk
 exact⟨_,rfl,"set_iterator",_,ty,AG.lookup,q⟩
theorem Ii (hh:A.handled=none){l:List Nat} (hl:l.Perm (List.range es.size)) (n1:I≠S) (n2:I≠T) (hd:o.data=Data.set es ep t) (hf:t.fits es.size=true) :
 WalksS P w A I [I,T,S] [I] (fun a b=>a=b) es.size (fun i v=>∃p h0,l[i]? = some p∧es[p]? = some (h0,v)) (fun i s=>i≤es.size∧s.heap.get? I=some (itO (.ref T) i S es.size ep)∧s.heap.get? T=some (plO l)∧s.heap.get? S=some o) where
 sub:=by simp
 grefl:=fun _=>rfl
 gtrans:=fun _ _ _ a b=>a.trans b
 frame:=fun i s h' tk ⟨h0,h1,h2,h3⟩ _ k=>⟨h0,k I (by simp) _ h1,k T (by simp) _ h2,k S (by simp) _ h3⟩
 item:=fun i s Q E hi ⟨h0,h1,h2,h3⟩ q=>by
  have ll:l.length=es.size:=by rw[hl.length_eq,qBl]
  obtain⟨p,hp⟩:∃p,l[i]? = some p:=⟨_,qAc ()⟩
  have pe:p<es.size:=qAV.mp (hl.mem_iff.mp (qAy hp))
  obtain⟨⟨a0,x⟩,he⟩:∃e,es[p]? = some e:=⟨_,Array.getElem?_eq_getElem pe⟩
  refine Jp h1 h2 h3 hd hf hp he fun h' g1 sb=>q x _ ⟨p,a0,hp,he⟩ ⟨hi,g1,(sb.2 T (Ne.symm n2)).trans h2,(sb.2 S (Ne.symm n1)).trans h3⟩ ⟨fun b ob nb e=>(sb.2 b (by simpa using nb)).trans e,rfl,rfl,rfl,qAg _⟩
 done:=fun s Q E ⟨h0,h1,h2,h3⟩ q=>by
  have ll:l.length=es.size:=by rw[hl.length_eq,qBl]
  exact J7 hh h1 h2 h3 hd hf (qAs.mpr ()) fun h' kp=>q _ ⟨fun b ob nb e=>kp b ob (by simpa using nb) e,rfl,rfl,rfl,qAg _⟩
 self:=fun i s Q E ⟨_,h1,_,_⟩ q=>GX h1 q
theorem DN (hh:A.handled=none){nx:Nat→Nat}{L:List Value} (hL:L.length=es.size) (n1:I≠S) (hd:o.data=Data.set es ep t) (hf:t.fits es.size=true)
 (hn:∀(i:Nat){s:Shared}{A':Around}{Q':Option (Value×Nat)→Shared→Prop}{E':Value→Shared→Prop},s.heap.get? S=some o→i≤es.size→Q' ((L[i]?).map fun v=>(v,nx (i+1))) s→wpAny (model P w) A' (setNext S (nx i) i ep) Q' E' s) :
 WalksS P w A I [I,S] [I] (fun a b=>a=b) es.size (fun i v=>L[i]? = some v) (fun i s=>i≤es.size∧s.heap.get? I=some (itO (rawInt (nx i)) i S es.size ep)∧s.heap.get? S=some o) where
 sub:=by simp
 grefl:=fun _=>rfl
 gtrans:=fun _ _ _ a b=>a.trans b
 frame:=fun i s h' tk ⟨h0,h1,h3⟩ _ k=>⟨h0,k I (by simp) _ h1,k S (by simp) _ h3⟩
 item:=fun i s Q E hi ⟨h0,h1,h3⟩ q=>by
  obtain⟨x,hx⟩:∃x,L[i]? = some x:=⟨_,qAc ()⟩
  refine KZ (nx:=nx (i+1)) (x:=x) h1 h3 hd hf (fun {A' Q' E'} h=>hn i h3 h0 (by rw[hx];exact h)) fun h' g1 sb=>q x _ hx ⟨hi,g1,(sb.2 S (Ne.symm n1)).trans h3⟩ ⟨fun b ob nb e=>(sb.2 b (by simpa using nb)).trans e,rfl,rfl,rfl,qAg _⟩
 done:=fun s Q E ⟨h0,h1,h3⟩ q=>by
  have hx:L[es.size]? = none:=qAs.mpr ()
  exact MG hh h1 h3 hd hf (fun {A' Q' E'} h=>hn es.size h3 h0 (by rw[hx];exact h)) fun h' kp=>q _ ⟨fun b ob nb e=>kp b ob (by simpa using nb) e,rfl,rfl,rfl,qAg _⟩
 self:=fun i s Q E ⟨_,h1,_⟩ q=>GX h1 q
end
end L3
namespace L3
open PySem PySem.Spec PyProof.Rows L2
theorem Hk (p j:Nat):SetTable.below #[p] j=if p<j then 1 else 0:=by
 unfold SetTable.below
 show SetTable.below.go #[p] j 1 0 1=_
 by_cases c:p<j
 ·simp[SetTable.below.go,c]
 ·simp[SetTable.below.go,c]
section
variable {P:Program}{w:World}{A:Around}{S:Addr}{o:Obj}{es:Array (Int×Value)}{ep:Nat}{t:SetTable}
theorem Gp (f:Nat→Nat):(pickOrder f es).toList.Perm es.toList:=by
 unfold pickOrder
 have:=Kw f es.size 0 es.toList #[] (by simp)
 simpa using this
theorem JT (hh:A.handled=none){I:Addr} (hb:byT w=true) (n1:I≠S) (hd:o.data=Data.set es ep t) (hf:t.fits es.size=true) :
 WalksS P w A I [I,S] [I] (fun a b=>a=b) es.size (fun i v=>(((pickOrder (w.params.setOrder S ep) es).toList.map (·.2)))[i]? = some v) (fun i s=>i≤es.size∧s.heap.get? I=some (itO (rawInt ((0:Nat):Int)) i S es.size ep)∧s.heap.get? S=some o):=by
 refine DN (nx:=fun _=>0) hh (by rw[qAf,(Gp _).length_eq,Array.length_toList]) n1 hd hf fun i {s A' Q' E'} hS hi q=>?_
 refine OG hb hS hd hf ?_
 rw[qAl,Array.getElem?_toList,qCL] at q
 exact q
theorem Kq (hh:A.handled=none){I:Addr}{h0:Int}{x:Value} (hb:byT w=false) (he:es.toList=[(h0,x)]) (hl:t.led=true) (n1:I≠S) (hd:o.data=Data.set es ep t) (hf:t.fits es.size=true) :
 ∃nx:Nat→Nat,nx 0=0∧WalksS P w A I [I,S] [I] (fun a b=>a=b) es.size (fun i v=>([x])[i]? = some v) (fun i s=>i≤es.size∧s.heap.get? I=some (itO (rawInt (nx i)) i S es.size ep)∧s.heap.get? S=some o):=by
 have e1:es=#[(h0,x)]:=by
  apply Array.toList_inj.mp
  rw[he]
 have e2:es.size=1:=by rw[e1];rfl
 have ps:t.place.size=1:=by
  unfold SetTable.fits at hf
  rw[qAF] at hf
  have:=eq_of_beq hf.1
  omega
 obtain⟨p0,hp0⟩:∃p0,t.place=#[p0]:=by
  have:=ps
  generalize t.place=pl at this
  obtain⟨l⟩:=pl
  match l,this with
  |[a],_=>exact⟨a,rfl⟩
 refine⟨fun i=>if i=0 then 0 else p0+1,rfl,DN hh (by rw[e2];rfl) n1 hd hf fun i {s A' Q' E'} hS hi q=>?_⟩
 refine Lu hb hS hd hf () hl ?_
 rw[hp0,e1]
 have i2:i=0∨i=1:=()
 rcases i2 with rfl|rfl
 ·rw[if_pos rfl,Hk,if_neg ()]
  exact q
 ·rw[if_neg ∅,Hk,if_pos ()]
  exact q
theorem JK (hh:A.handled=none){I:Addr} (hb:byT w=false) (he:es.size=0) (hl:t.led=true) (n1:I≠S) (hd:o.data=Data.set es ep t) (hf:t.fits es.size=true) :
 WalksS P w A I [I,S] [I] (fun a b=>a=b) es.size (fun i v=>([]:List Value)[i]? = some v) (fun i s=>i≤es.size∧s.heap.get? I=some (itO (rawInt ((0:Nat):Int)) i S es.size ep)∧s.heap.get? S=some o):=by
 refine DN (nx:=fun _=>0) hh (by rw[he];rfl) n1 hd hf fun i {s A' Q' E'} hS hi q=>?_
 refine Lu hb hS hd hf () hl ?_
 have e:∀k:Nat,es[k]? = none:=fun k=>Array.getElem?_eq_none ()
 rw[e]
 exact q
end
end L3
namespace L3
open PySem PySem.Spec PyProof.Rows L2
section
variable {P:Program}{w:World}{A:Around}{E:Value→Shared→Prop}{s:Shared}{S:Addr}{o:Obj}{es:Array (Int×Value)}{ep:Nat}{t:SetTable}
theorem MJ {Q:Bool→Shared→Prop} (hS:s.heap.get? S=some o) (hx:o.ExactSet) (q:Q false s):wpAny (model P w) A (Builtin.List.listLengthHint (.ref S)) Q E s:=by
 have ty:s.TypeIs (.ref S) "set":=⟨o,hS,hx.1⟩
 unfold Builtin.List.listLengthHint
 refine wpAny_bind (wpAny_specialOf ty F.slot_set_len.lookup ?_)
 dsimp only
 rw[show splitId "set.__len__"=some ("set","__len__") by kernel_rfl]
 dsimp only
 refine wpAny_bind (wpAny_isInstance ty F.sub_set_set ?_)
 rw[if_neg (show ¬(!true)=true from qAe)]
 refine wpAny_ite_true (by kernel_rfl) ?_
 refine wpAny_bind (wpAny_typeOf ty ?_)
 exact wpAny_pure q
theorem Jt {L:Addr}{R:Result→Shared→Prop} (hh:A.handled=none) (hS:s.heap.get? S=some o) (hx:o.ExactSet) (hd:o.data=Data.set es ep t) (hf:t.fits es.size=true) (hp:1<es.size→t.plain=false) (hz:es.size≤4096) (hl:byT w=false→t.led=true) (hL:s.heap.get? L=some { cls:=.type "list",data:=.seq #[] 0 })
 (fin:∀(h':Heap)(d:Drawn)(tk:Nat)(acc:Array Value)(c:Nat)(p:List (Int×Value)),p.Perm es.toList→acc.toList=p.map (·.2)→h'.get? L=some { cls:=.type "list",data:=.seq acc c }→(∀b ob,b≠L→s.heap.get? b=some ob→h'.get? b=some ob)→R (.ok (.ret (.ref L))) ⟨h',s.gens,d,tk,s.os⟩) :
 codeAny (model P w) A (.builtin "list.__iadd__" ⟨[.ref L,.ref S],[]⟩) R s:=by
 have ty:s.TypeIs (.ref S) "set":=⟨o,hS,hx.1⟩
 refine codeAny_builtin F.entry_list_iadd ?_
 unfold Builtin.«list.__iadd__»
 have LS:L≠S:=fun z=>by
  rw[z,hS] at hL
  have e1:=hx.1
  rw[qAn hL] at e1
  exact absurd e1 ∅
 have sL:(4097:Nat)≤sizeLine:=∅
 refine wpAny_bind (wpAny_pure ?_)
 dsimp only
 unfold Builtin.List.listExtendWith
 refine wpAny_bind (wpAny_typeOf ty ?_)
 refine wpAny_ite_false (decide_eq_false ?_) ?_
 ·show ¬((L==S)||false||false)=true
  rw[beq_eq_false_iff_ne.mpr LS]
  exact qAe
 have go:∀(X:Bool)(s1:Shared)(I:Addr)(fp:List Addr)(Pr:Nat→Value→Prop)(St:Nat→Shared→Prop),s1.heap.get? S=some o→s1.heap.get? L=some { cls:=.type "list",data:=.seq #[] 0 }→s1.gens=s.gens→s1.os=s.os→(∀b ob,s.heap.get? b=some ob→s1.heap.get? b=some ob)→s.heap.get? I=none→WalksS P w A.in1 I fp [I] (fun a b=>a=b) es.size Pr St→L∉fp→St 0 s1→(∀acc:Array Value,ItemsOf Pr acc es.size→∃p:List (Int×Value),p.Perm es.toList∧acc.toList=p.map (·.2))→X=true→∀{A':Around}{E':Value→Shared→Prop},
  wpAny (model P w) A' (do
   let room ←holding [.ref I] (Builtin.List.listLengthHint (.ref S))
   if (room||X)=true then do
    rule "list.extend.makes-room"
    Builtin.List.listTouch (.ref L)
    again (.builtin "list.extend.loop" ⟨[.ref L,.ref I,.ref L],[]⟩)
   else again (.builtin "list.extend.loop" ⟨[.ref L,.ref I,.ref L],[]⟩)) (fun fin s'=>match fin with
    |PySem.Fin.done f=>R (Except.ok f) s'
    |PySem.Fin.again c'=>c'.quiet=true∧codeAny (model P w) A c' R s') E' s1:=by
  intro X s1 I fp Pr St gS gL eg eo kp fr W nf s0 hP eX A' E'
  subst eX
  refine wpAny_bind (wpAny_holding (MJ gS hx ?_))
  refine wpAny_ite_true rfl ?_
  refine wpAny_bind (wpAny_rule ?_)
  refine wpAny_bind ?_
  show wpAny _ _ (updateSeq L (·.push .none) >>= fun _=>updateSeq L (·.pop)) _ _ _
  refine wpAny_bind (wpAny_updateSeq gL rfl ?_)
  have hS₂:=qAY (Obj.mapSeq (·.push Value.none)) gL rfl
  refine wpAny_updateSeq (hz:=by seq_fits) hS₂ rfl ?_
  have hS₃:=qAY (Obj.mapSeq (·.pop)) hS₂ rfl
  have oth:∀b ob,b≠L→s1.heap.get? b=some ob→((s1.heap.update L (Obj.mapSeq (·.push Value.none))).update L (Obj.mapSeq (·.pop))).get? b=some ob:=fun b ob hb e=>(qBx _ _ (Ne.symm hb)).trans ((qBx _ _ (Ne.symm hb)).trans e)
  refine wpAny_pure ⟨plainId_quiet F.plain_extend_loop _,codeAny_extend_loopS W () L nf (.ref L) es.size 0 _ _ _ rfl (qAw _) (W.frame 0 s1 _ s1.toks s0 (qAg _) fun b hb ob e=>oth b ob (fun h=>nf (h ▸ hb)) e) hS₃ ⟨rfl,fun j v z=>by cases z⟩ fun s2 acc c mv g2 it=>?_⟩
  obtain⟨p,pp,pe⟩:=hP acc it
  obtain⟨h2,gg,d2,tk2,os2⟩:=s2
  have e1:s1.gens=gg:=mv.gens
  have e2:os2=s1.os:=mv.os
  rw[←e1,e2,eg,eo]
  refine fin h2 d2 tk2 acc c p pp pe g2 fun b ob bL eb=>mv.heap b ob (fun z=>?_) (oth b ob bL (kp b ob eb))
  rcases qAq.mp z with z|z
  ·exact bL z
  ·have:b=I:=by simpa using z
   rw[this,fr] at eb
   cases eb
 have far:∀k,s.heap.get? (s.heap.objs.size+k:Nat)=none:=fun k=>by
  cases e:s.heap.get? (s.heap.objs.size+k:Nat) with
  |none=>rfl
  |some ob=>exact absurd (qAh e) (qCN.mpr (Nat.le_add_right _ _))
 have lS:S<s.heap.objs.size:=qAh hS
 have lL:L<s.heap.objs.size:=qAh hL
 have tl:∀{acc:Array Value}{n:Nat}{f:Nat→Value},acc.size=n→(∀j v,acc[j]? = some v→v=f j)→acc.toList=(List.range n).map f:=fun {acc n f} e1 e2=>by
  refine qA1 fun j=>?_
  rw[Array.getElem?_toList,qAl]
  by_cases c:j<n
  ·rw[Array.getElem?_eq_getElem (),qCc c]
   exact congrArg some (e2 j _ (Array.getElem?_eq_getElem ()))
  ·rw[Array.getElem?_eq_none (),qBD (by rw[qBl];omega)]
   rfl
 refine wpAny_bind (ML hS hx hd hf hp hz (fun hb h2 l d pm=>?_) (fun hb=>?_))
 ·have n1:(s.heap.push (plO l)).objs.size=s.heap.objs.size+1:=qBU ..
  refine go _ { s with heap:=(s.heap.push (plO l)).push (itO (.ref s.heap.objs.size) 0 S es.size ep),drawn:=d } (s.heap.objs.size+1:Nat) [(s.heap.objs.size+1:Nat),s.heap.objs.size,S] _ _ (qAb _ (qAb _ hS)) (qAb _ (qAb _ hL)) rfl rfl (fun b ob e=>qAb _ (qAb _ e)) (far 1) (Ii (A:=A.in1) hh pm (T:=s.heap.objs.size) (qBq (qCq lS)) (qCv _) hd hf) (by simp only[qAq,qBH,or_false,not_or];exact⟨qAo (qCq lL),qAo lL,LS⟩) ⟨qAw _,?_,?_,qAb _ (qAb _ hS)⟩ (fun acc it=>?_) (by kernel_rfl)
  ·rw[←n1];exact qAm _ rfl
  ·exact qAb _ (qAm _ rfl)
  ·have ll:l.length=es.size:=by rw[pm.length_eq,qBl]
   refine⟨l.map fun p=>es[p]?.getD (0,.none),?_,?_⟩
   ·have e:es.toList=(List.range es.size).map fun p=>es[p]?.getD (0,.none):=by
     refine qA1 fun j=>?_
     rw[Array.getElem?_toList,qAl]
     by_cases c:j<es.size
     ·rw[Array.getElem?_eq_getElem c,qCc c]
      simp[c]
     ·rw[Array.getElem?_eq_none (),qBD (by rw[qBl];omega)]
      rfl
    rw[e]
    exact pm.map _
   ·rw[qBr]
    refine qA1 fun j=>?_
    rw[Array.getElem?_toList,qAl]
    by_cases c:j<es.size
    ·have hj:acc[j]? = some (acc[j]'(by rw[it.1];exact c)):=Array.getElem?_eq_getElem (by rw[it.1];exact c)
     obtain⟨p,h0,e1,e2⟩:=it.2 j _ hj
     rw[hj,e1]
     show some _=some ((es[p]?.getD (0,Value.none)).2)
     rw[e2]
     rfl
    ·rw[Array.getElem?_eq_none (by rw[it.1];omega),qBD ()]
     rfl
 ·have ne:(s.heap.objs.size:Nat)≠S:=qBq lS
  have nf:L∉[(s.heap.objs.size:Addr),S]:=by simp only[qAq,qBH,or_false,not_or];exact⟨qAo lL,LS⟩
  have lst:∀{V:List Value}{acc:Array Value},V.length=es.size→ItemsOf (fun i v=>V[i]? = some v) acc es.size→acc.toList=V:=fun {V acc} e it=>by
   refine qA1 fun j=>?_
   rw[Array.getElem?_toList]
   by_cases c:j<es.size
   ·have hj:acc[j]? = some (acc[j]'(by rw[it.1];exact c)):=Array.getElem?_eq_getElem (by rw[it.1];exact c)
    rw[hj]
    exact(it.2 j _ hj).symm
   ·rw[Array.getElem?_eq_none (by rw[it.1];omega),qBD ()]
  by_cases tb:byT w=true
  ·refine go _ { s with heap:=s.heap.push (itO (rawInt 0) 0 S es.size ep) } s.heap.objs.size [s.heap.objs.size,S] _ _ (qAb _ hS) (qAb _ hL) rfl rfl (fun b ob e=>qAb _ e) (far 0) (JT (A:=A.in1) hh tb ne hd hf) nf ⟨qAw _,qAm _ rfl,qAb _ hS⟩ (fun acc it=>⟨(pickOrder (w.params.setOrder S ep) es).toList,Gp _,lst (by rw[qAf,(Gp _).length_eq,Array.length_toList]) it⟩) (by kernel_rfl)
  ·have fb:byT w=false:=by simpa using tb
   by_cases z0:es.size=0
   ·refine go _ { s with heap:=s.heap.push (itO (rawInt 0) 0 S es.size ep) } s.heap.objs.size [s.heap.objs.size,S] _ _ (qAb _ hS) (qAb _ hL) rfl rfl (fun b ob e=>qAb _ e) (far 0) (JK (A:=A.in1) hh fb z0 (hl fb) ne hd hf) nf ⟨qAw _,qAm _ rfl,qAb _ hS⟩ (fun acc it=>⟨es.toList,.refl _,?_⟩) (by kernel_rfl)
    rw[lst (V:=[]) (by rw[z0];rfl) it,qAA (show es.toList.length=0 by rw[Array.length_toList,z0])]
    rfl
   have z1:es.size=1:=by
    rcases hb with hb|hb
    ·exact absurd hb tb
    ·omega
   obtain⟨⟨h0,x⟩,e0⟩:∃e,es.toList=[e]:=by
    have:es.toList.length=1:=by rw[Array.length_toList,z1]
    match h:es.toList,this with
    |[e],_=>exact⟨e,rfl⟩
   obtain⟨nx,x0,W⟩:=Kq (P:=P) (w:=w) (A:=A.in1) (I:=s.heap.objs.size) hh fb e0 (hl fb) ne hd hf
   refine go _ { s with heap:=s.heap.push (itO (rawInt 0) 0 S es.size ep) } s.heap.objs.size [s.heap.objs.size,S] _ _ (qAb _ hS) (qAb _ hL) rfl rfl (fun b ob e=>qAb _ e) (far 0) W nf ⟨qAw _,?_,qAb _ hS⟩ (fun acc it=>⟨es.toList,.refl _,by rw[lst (V:=[x]) (by rw[z1];rfl) it,e0];rfl⟩) (by kernel_rfl)
   rw[x0]
   exact qAm _ rfl
end
end L3
namespace L3
open PySem PySem.Spec PyProof.Rows L2
section
variable {P:Program}{w:World}{A:Around}{E:Value→Shared→Prop}{s:Shared}{S:Addr}{o:Obj}{es:Array (Int×Value)}{ep:Nat}{t:SetTable}
theorem HX {Q:List Value→Shared→Prop} (hh:A.handled=none) (hS:s.heap.get? S=some o) (hx:o.ExactSet) (hd:o.data=Data.set es ep t) (hf:t.fits es.size=true) (hp:1<es.size→t.plain=false) (hz:es.size≤4096) (hl:byT w=false→t.led=true)
 (fin:∀(h':Heap)(d:Drawn)(tk:Nat)(p:List (Int×Value)),p.Perm es.toList→(∀b ob,s.heap.get? b=some ob→h'.get? b=some ob)→Q (p.map (·.2)) ⟨h',s.gens,d,tk,s.os⟩) :
 wpAny (model P w) A (collect (.ref S)) Q E s:=by
 unfold collect
 refine wpAny_bind (wpAny_runValue (codeAny_builtin F.entry_proto_collect ?_))
 rw[Around.under_plainId F.plain_proto_collect _]
 show wpAny _ A.in1 (newList [] >>= fun l=>again (.builtin "list.__iadd__" ⟨[l,.ref S],[]⟩)) _ _ s
 refine wpAny_bind (wpAny_newObj_type ?_)
 refine wpAny_pure ⟨plainId_quiet F.plain_list_iadd _,?_⟩
 have fr:∀b ob,s.heap.get? b=some ob→b≠s.heap.objs.size:=fun b ob e=>qAo (qAh e)
 refine Jt (L:=s.heap.objs.size) hh (qAb _ hS) hx hd hf hp hz hl (qAm _ rfl) fun h' d tk acc c p pp pe gL kp=>?_
 show wpAny _ A (load s.heap.objs.size >>= _) _ _ _
 refine wpAny_bind (wpAny_load gL ?_)
 refine wpAny_pure ?_
 rw[pe]
 exact fin h' d tk p pp fun b ob e=>kp b ob (fr b ob e) (qAb _ e)
theorem JR {ss:List Str}{Q:Value→Shared→Prop} (hh:A.handled=none) (hS:s.heap.get? S=some o) (hx:o.ExactSet) (hd:o.data=Data.set es ep t) (hf:t.fits es.size=true) (hp:1<es.size→t.plain=false) (h64:es.size<64) (hl:byT w=false→t.led=true) (hT:StrsAre (es.toList.map (·.2)) ss)
 (fin:∀(h1 h':Heap)(d:Drawn)(tk:Nat)(l:Addr)(out:Array Value)(c:Nat)(ss':List Str),StrsAre out.toList ss'→ss'.Perm ss→sortedS ss'=true→(∀b ob,s.heap.get? b=some ob→h1.get? b=some ob)→h1.objs.size≤l→h'.get? l=some (seqObj "list" out c)→(∀b ob,h1.get? b=some ob→h'.get? b=some ob)→Q (.ref l) ⟨h',s.gens,d,tk,s.os⟩) :
 wpAny (model P w) A (call (.builtin "sorted") [.ref S]) Q E s:=by
 refine Calls.call_function_entry kind_sorted plain_sorted entry_sorted (args_sorted1 _) ?_
 unfold Builtin.«sorted»
 refine wpAny_bind (m:=checkCount "sorted" 1 1 _) (wpAny_pure ?_)
 refine wpAny_bind (HX hh hS hx hd hf hp () hl fun h1 d tk p pp kp=>?_)
 have pv:(p.map (·.2)).Perm (es.toList.map (·.2)):=pp.map _
 have hT':StrsAre (p.map (·.2)) ((p.map (·.2)).map strOf):=strsAre_map _ fun v hv=>hT.all v (pv.mem_iff.mp hv)
 have pS:((p.map (·.2)).map strOf).Perm ss:=by
  rw[←hT.strs]
  exact pv.map _
 have h64':(p.map (·.2)).length<64:=by rw[pv.length_eq,qAf,Array.length_toList];exact h64
 refine wpAny_bind (wpAny_newList ?_)
 have hoL:(h1.push (seqObj "list" (p.map (·.2)).toArray 0)).get? h1.objs.size=some (seqObj "list" (p.map (·.2)).toArray 0):=qAm _ rfl
 refine wpAny_bind (wpAny_holding (wpAny_call_entry slot_list_sort ⟨_,hoL,rfl⟩ entry_list_sort (list_sort_treeK strKind_oneLt hoL hT'.keysOf (fun v₁ v₂ Cp e=>keyKind_strs (by rw[←e];exact hT')) h64' fun st' a1 a2=>⟨_,rfl,?_⟩) (args_list_sort _)))
 obtain⟨ss',b1,b2,b3⟩:=sorted_out_str hT' a1 a2
 obtain⟨c,gl⟩:=sortedHeap_at (out:=(arrOf st').map (·.2)) hoL
 refine wpAny_pure ⟨_,rfl,fin h1 _ d tk h1.objs.size _ c ss' b1 (b2.trans pS) b3 kp (qAg _) gl fun b ob e=>?_⟩
 have lb:=qAh e
 rw[sortedHeap_old (qAo lb) (by rw[size_push'];exact qCq lb)]
 exact qAb _ e
end
end L3
namespace L3
open PySem PySem.Spec PyProof.Rows L2
section
variable {X:Cx}
theorem Ly {pins:List (Addr×Obj)}{σ:L2.St}{H:Hp}{s:Shared}{d:Drawn} (I:L2.Inv X pins σ H s):L2.Inv X pins σ H { s with drawn:=d } :=
 ⟨I.ok,I.os,I.bare,I.base,I.loc,I.cell,I.free,I.freeC,I.pin,I.hok,I.len⟩
theorem FG:∀{vs:List Value}{ss:List Str},StrsAre vs ss→AA (ss.map V.str) vs
 |_,_,.nil=>.nil
 |_,_,.cons _ t h=>.cons ⟨t,rfl⟩ (FG h)
theorem IZ {w:World}:∀l:List (Str×Tok),StrsAre ((l.map fun p=>(hashStr w p.fst,Value.str p.fst p.snd)).map (·.2)) (l.map (·.1))
 |[]=>.nil
 |p::r=>.cons p.1 p.2 (IZ r)
def MY (X:Cx):List V→Hp→VK→Prop:=fun xs H Q=>∃(p:Addr)(ss:List Str),xs=[.ref p]∧SqL X.K H p (ss.map V.str)∧ss.length<64∧∀ss':List Str,sortedS ss'=true→ss'.Nodup→(∀x,x∈ss' ↔ x∈ss)→∀l,H l=none→X.K.lookup l=none→Q (.ref l) (upd H l (.lst (ss'.map V.str)))
theorem Jr {p p2 pos pos2:Pos}{e:Expr}{t:TA} (hc:X.calm=true) (hg:Gl X "sorted") (hm:X.mg "sorted"=none) (hg2:Gl X "set") (hm2:X.mg "set"=none) (ha:PA X [e] t)
 (he:starEach [e] X.env=(false,eval e X.env)::starEach [] X.env:=by rfl) (hpl:(backTo pos2 (starEach [] X.env)).any (·.1)=false:=by rfl)
 (he2:starEach [.Call (.Name "set" p2) [e] [] pos2] X.env=(false,eval (.Call (.Name "set" p2) [e] [] pos2) X.env)::starEach [] X.env:=by rfl) (hpl2:(backTo pos (starEach [] X.env)).any (·.1)=false:=by rfl) :
 PE X (.Call (.Name "sorted" p) [.Call (.Name "set" p2) [e] [] pos2] [] pos) (tCB (MY X) t):=by
 intro pins s σ H Q I h
 refine wpAny_Call_Name_kw (B6 I hg hm qA7 ?_ ∅ ∅)
 refine qB9 ?_ he2 hpl2
 rw[he2]
 show wpAny _ _ (spliced ((false,eval (.Call (.Name "set" p2) [e] [] pos2) X.env)::backTo pos (starEach [] X.env))) _ _ s
 refine Calls.spliced_cons ?_
 refine wpAny_Call_Name_kw (B6 I hg2 hm2 PyProof.Rows.boot_set ?_ ∅ ∅)
 refine qAX (thn (ha pos2 pins s σ H _ I h) fun us s1 ⟨vs,H1,I1,r1,q1⟩=>?_) he hpl
 obtain⟨a,ss,rfl,hq,h64,q⟩:=q1
 obtain⟨u,rfl,rx⟩:=Bd r1
 cases rx
 obtain⟨its,rv,pl,hz⟩:=I1.list hq
 obtain⟨tv,rfl,etv⟩:=Dv rv
 have ltv:tv.length=ss.length:=by rw[←etv,qAf]
 refine MP (I1.ok.hd hc) pl.isList () fun h2 tk o' xs' w' kp g0 sd nd le mem=>?_
 refine Calls.spliced_nil ?_
 obtain⟨hx,es,ep,tb,hd,hf,hled,hpn,l,el,exs⟩:=sd
 have sz:es.size=xs'.length:=by rw[←Array.length_toList,el,←exs,qAf,qAf]
 refine JR (s:={ s1 with heap:=h2,toks:=tk }) (ss:=xs') (I1.ok.hd hc) g0 hx hd hf (fun z=>hpn ()) () (fun z=>by rw[hled,z];rfl) (by rw[el,←exs];exact IZ l) fun h3 h4 d tk2 b out c ss' b1 b2 b3 k3 hb gb k4=>?_
 have I3:L2.Inv X pins σ H1 { s1 with heap:=h3,toks:=tk2 }:=I1.kept (t':=tk2) fun b u e=>k3 b u (kp b u e)
 have hf3:H1 b=none:=I3.hok.fresh hb
 have hk3:X.K.lookup b=none:=by
  cases e:X.K.lookup b with
  |none=>rfl
  |some o=>exact absurd (qAh (I3.kIn _ _ e)) (qCN.mpr hb)
 have ln:(ss'.map V.str).length≤sizeLine:=by
  rw[qAf,b2.length_eq,sizeLine_eq];omega
 refine⟨.ref b,_,Ly (d:=d) (I3.laid (t':=tk2) (o:=.lst (ss'.map V.str)) k4 hb ⟨ln,out.toList,c,FG b1,gb⟩),rfl,q ss' b3 (b2.nodup_iff.mpr nd) (fun x=>?_) b hf3 hk3⟩
 rw[b2.mem_iff,mem,etv]
end
end L3
namespace L3
open PySem PySem.Spec PyProof.Rows L2
section
variable {X:Cx}{e:Expr}{te:TE3}
theorem C9 {K:PySem.W.Frag}{H:Hp} (ss:List Str):Iss K H (ss.map V.str) (ss.map D.str):=by
 refine⟨by simp,fun i v x h1 h2=>?_⟩
 rw[qAl] at h1 h2
 cases e:ss[i]? with
 |none=>rw[e] at h1;cases h1
 |some p =>
  rw[e] at h1 h2
  cases h1
  cases h2
  exact .str _
def Nw (te:TE3):TE3:=fun τ R=>te τ fun s=>match KY s with
 |some xs=>∃ss:List Str,xs=ss.map D.str∧ss.length<64∧∀ss':List Str,sortedS ss'=true→ss'.Nodup→(∀x,x∈ss' ↔ x∈ss)→R (.l (ss'.map D.str))
 |none=>False
theorem J8 {p p2 pos pos2:Pos} (hc:X.calm=true) (he:PE3 X e te) (hg:Gl X "sorted") (hm:X.mg "sorted"=none) (hg2:Gl X "set") (hm2:X.mg "set"=none) (hs:starEach [e] X.env=(false,eval e X.env)::starEach [] X.env:=by exact AI rfl) :
 PE3 X (.Call (.Name "sorted" p) [.Call (.Name "set" p2) [e] [] pos2] [] pos) (Nw te) :=
 ⟨Al (Jr hc hg hm hg2 hm2 (Az he.out A5 hs) hs rfl (AI rfl) rfl) fun σ H Q hh=>by
  obtain⟨B,z,τ,R,r,ht,q⟩:=hh
  exact⟨B,z,τ,_,r,ht,fun s v q1 e1 i1 f1 h1=>by
   split at h1
   ·rename_i xs hx
    obtain⟨ss,rfl,h64,h1⟩:=h1
    obtain⟨a,vs,rfl,g2,g1⟩:=Ck i1 e1.sub hx
    have ev:=FO g2
    subst ev
    refine⟨a,ss,rfl,g1,h64,fun ss' po nd mem d hd hk=>?_⟩
    exact q (.l (ss'.map D.str)) _ ⟨_,q1.z⟩ (e1.trans (Ext.own e1.sub hd _)) ⟨d,ss'.map V.str,rfl,Ac,C9 ss'⟩ (fun ys a _ h2=>by
     cases h2
     exact⟨e1.hh.free hd,hk,e1.sub.free hd⟩) (h1 ss' po nd mem)
   ·exact h1.elim⟩⟩
def Sb (X:Cx):List V→Hp→VK→Prop:=fun xs H Q=>∃(p:Addr)(ss:List Str),xs=[.ref p]∧SqL X.K H p (ss.map V.str)∧ss.length<64∧∀ss':List Str,ss'.Perm ss→sortedS ss'=true→∀l,H l=none→X.K.lookup l=none→Q (.ref l) (upd H l (.lst (ss'.map V.str)))
theorem Ju:A7 X (.builtin "sorted") (Sb X):=by
 intro pins s σ H xs us Q I r h
 obtain⟨p,ss,rfl,hq,h64,q⟩:=h
 obtain⟨u,rfl,rx⟩:=Bd r
 cases rx
 obtain⟨its,rv,pl,hz⟩:=I.list hq
 obtain⟨tv,rfl,etv⟩:=Dv rv
 have hI:StrsAre (strValues tv) ss:=by
  rw[←etv]
  clear rv pl hz hq etv q h64
  induction tv with
  |nil=>exact .nil
  |cons a b ih=>exact .cons a.1 a.2 ih
 have ltv:(strValues tv).length=ss.length:=by rw[←etv];simp[strValues]
 refine PyProof.Rows.sorted_strs pl.isList hI () fun out ss' a1 a2 a3=>?_
 obtain⟨c,gl⟩:=qCr s.heap (strValues tv) out
 have hk3:X.K.lookup (s.heap.objs.size+1)=none:=by
  cases e:X.K.lookup (s.heap.objs.size+1) with
  |none=>rfl
  |some o=>exact absurd (qAh (I.kIn _ _ e)) (qCN.mpr (qA4 _))
 have ln:(ss'.map V.str).length≤sizeLine:=by
  rw[qAf,a2.length_eq,sizeLine_eq];omega
 exact⟨.ref (s.heap.objs.size+1),_,I.laid (t':=s.toks) (o:=.lst (ss'.map V.str)) (fun b o=>qCo) (qA4 _) ⟨ln,out.toList,c,FG a1,gl⟩,rfl,q ss' a2 a3 _ (I.hok.fresh (qA4 _)) hk3⟩
def RO (te:TE3):TE3:=fun τ R=>te τ fun s=>match KY s with
 |some xs=>∃ss:List Str,xs=ss.map D.str∧ss.length<64∧∀ss':List Str,ss'.Perm ss→sortedS ss'=true→R (.l (ss'.map D.str))
 |none=>False
theorem Qo {p pos:Pos} (he:PE3 X e te) (hg:Gl X "sorted") (hm:X.mg "sorted"=none) (hs:starEach [e] X.env=(false,eval e X.env)::starEach [] X.env:=by exact AI rfl):PE3 X (.Call (.Name "sorted" p) [e] [] pos) (RO te) :=
 ⟨Al (Cj Ju hg hm qA7 (Az he.out A5 hs) (he:=hs)) fun σ H Q hh=>by
  obtain⟨B,z,τ,R,r,ht,q⟩:=hh
  exact⟨B,z,τ,_,r,ht,fun s v q1 e1 i1 f1 h1=>by
   split at h1
   ·rename_i xs hx
    obtain⟨ss,rfl,h64,h1⟩:=h1
    obtain⟨a,vs,rfl,g2,g1⟩:=Ck i1 e1.sub hx
    have ev:=FO g2
    subst ev
    refine⟨a,ss,rfl,g1,h64,fun ss' pm po d hd hk=>?_⟩
    exact q (.l (ss'.map D.str)) _ ⟨_,q1.z⟩ (e1.trans (Ext.own e1.sub hd _)) ⟨d,ss'.map V.str,rfl,Ac,C9 ss'⟩ (fun ys a _ h2=>by
     cases h2
     exact⟨e1.hh.free hd,hk,e1.sub.free hd⟩) (h1 ss' pm po)
   ·exact h1.elim⟩⟩
end
end L3
namespace L3
open PySem PySem.Spec PyProof.Rows L2
theorem Lv:∀(p:Str)(r:List Str),risingS p r=true→(∀x∈r,¬x.cps.toList<p.cps.toList)∧r.Pairwise (fun a b=>¬b.cps.toList<a.cps.toList)
 |p,[],_=>⟨fun x hx=>(nomatch hx),.nil⟩
 |p,x::r,h=>by
  have h':(!ltCps x.cps.toList p.cps.toList&&risingS x r)=true:=h
  rw[qAF] at h'
  obtain⟨i1,i2⟩:=Lv x r h'.2
  have h1:¬x.cps.toList<p.cps.toList:=by
   have:=h'.1
   rw[ltCps_eq] at this
   simpa using this
  refine⟨fun y hy=>?_,List.pairwise_cons.mpr ⟨fun y hy=>i1 y hy,i2⟩⟩
  rcases qAq.mp hy with rfl|hy
  ·exact h1
  ·have h2:=i1 y hy
   intro z
   rw[qCF] at h1 h2
   exact absurd z (qCF.mpr (List.le_trans h1 h2))
theorem Oi:∀{l:List Str},sortedS l=true→l.Pairwise (fun a b=>¬b.cps.toList<a.cps.toList)
 |[],_=>.nil
 |x::r,h=>List.pairwise_cons.mpr ⟨fun y hy=>(Lv x r h).1 y hy,(Lv x r h).2⟩
theorem Qh {x y:Str} (h:x.cps.toList=y.cps.toList):x=y:=by
 cases x;cases y
 congr 1
 exact Array.toList_inj.mp h
theorem MU:∀{a b:List Str},a.Perm b→sortedS a=true→sortedS b=true→a=b:=by
 intro a b pm ha hb
 refine List.Perm.eq_of_pairwise (le:=fun a b=>¬b.cps.toList<a.cps.toList) (fun x y _ _ h1 h2=>?_) (Oi ha) (Oi hb) pm
 exact Qh (List.le_antisymm (qCF.mp h1) (qCF.mp h2))
theorem Fp {a b:List Str} (na:a.Nodup) (nb:b.Nodup) (m:∀x,x∈a ↔ x∈b) (ha:sortedS a=true) (hb:sortedS b=true):a=b :=
 MU ((List.perm_ext_iff_of_nodup na nb).mpr m) ha hb
end L3
namespace L3
open PySem PySem.Spec PyProof.Rows L2
structure IsC (K:PySem.W.Frag)(C Cy:Addr)(b:Bool):Prop where
 cl:Cls K C
 ha:PySem.W.findIn K (.ref C) "__class__"=some (some (.builtin "object.__class__"))
 hn:PySem.W.specialIn K (.builtin "object.__class__") "__get__"=some (some (.builtin "getset_descriptor.__get__"))
 htk:PySem.W.takesIn K (.builtin "object.__class__")=some true
 hm:PySem.W.mroIn K C (.type "object")=some true
 kit:PySem.W.kitOne K (.ref C) (.ref Cy)=some b
section
variable {X:Cx}{e:Expr}{te:TE3}{pos:Pos}
theorem Mn {Cy:Addr}:A7 X (.builtin "isinstance") (fun xs H Q=>∃a C dx fs b,xs=[.ref a,.ref Cy]∧H a=some (.ins C dx fs)∧IsC X.K C Cy b∧Q (.bl b) H):=by
 intro pins s σ H xs us Q I rs h
 obtain⟨a,C,dx,fs,b,rfl,h1,i,q⟩:=h
 obtain⟨v',u',rfl,r1,r2⟩:=Jz rs
 cases r2
 exact CO I r1 (.ins h1 i.cl i.ha i.hn i.htk i.hm) i.kit fun tk=>⟨.bl _,H,I.tok tk,rfl,q⟩
def Wz (ok:Str→Bool→Prop)(te:TE3):TE3:=fun τ R=>te τ fun s=>match s with
 |.d (.obj c _ _)=>∃b,ok c b∧R (.d (.bl b))
 |_=>False
theorem VX {ok:Str→Bool→Prop}{Cy:Addr}{y:Str}{p p2:Pos} (hk:∀c b C,ok c b→rA X.K c C→IsC X.K C Cy b) (ha:PE3 X e te) (hg:Gl X "isinstance") (hm:X.mg "isinstance"=none) (hgy:Gl X y) (hmy:X.mg y=some (.ref Cy)) (hd:(y==("__debug__":Str))=false:=by decide)
 (he:starEach [e,.Name y p2] X.env=(false,eval e X.env)::starEach [.Name y p2] X.env:=by exact AI rfl) (he2:starEach [.Name y p2] X.env=(false,eval (.Name y p2) X.env)::starEach [] X.env:=by exact AI rfl) (hpl:(backTo pos (starEach [.Name y p2] X.env)).any (·.1)=false:=by exact A1 rfl) :
 PE3 X (.Call (.Name "isinstance" p) [e,.Name y p2] [] pos) (Wz ok te) :=
 ⟨Al (Cj (Mn (Cy:=Cy)) hg hm qBC (Az ha.out (Az (HQ (v:=.ref Cy) hgy hmy rfl hd) A5 he2) he) (he:=he) (hpl:=hpl)) fun σ H Q hh=>by
  obtain⟨B,z,τ,R,r,ht,q⟩:=hh
  refine⟨B,_,τ,_,r,ht,fun s v H1 e1 i1 f1 h1=>?_⟩
  split at h1
  ·rename_i c ns xs
   obtain⟨b,hb,hR⟩:=h1
   obtain⟨C,a,dx,fs,g0,rfl,g1,g2,g3,g4,g5⟩:=Is.obj_inv i1
   exact⟨a,C,dx,fs,b,rfl,e1.sub _ _ g1,hk c b C hb g0,q (.d (.bl b)) _ H1 e1 (Is.bl _) Bp hR⟩
  ·exact h1.elim⟩
end
end L3
namespace L3
open PySem PySem.Spec PyProof.Rows L2
structure CFn (K:PySem.W.Frag)(C:Addr)(m:Str)(f:Addr):Prop where
 ga:PySem.W.specialIn K (.ref C) "__getattribute__"=some (some (.builtin "type.__getattribute__"))
 mc:∃mc,PySem.W.readsIn K C mc=true∧PySem.W.findCls K (.ref C) mc m=some (.val (.ref f))
 kp:PySem.W.keepIn K (.ref f)=true
section
variable {X:Cx}{e:Expr}{es:List Expr}{t:TA}{pos apos p:Pos}{m x:Str}{C f:Addr}{CX:CXT}{k:Nat}{fd:Obj}{ps:List Str}{sp:Sp}{E:XK}
def YQ (sp:Sp)(E:XK)(t:TA):TE:=fun σ H Q=>t σ H fun vs H1=>sp vs H1 Q E
theorem SQ {fd}{pl:Sem Bool} (hg:Gl X x) (hm:X.mg x=some (.ref C)) (c:CFn X.K C m f) (F:AJ X.prog X.w X.K X.mg X.base CX k f fd ps sp) (hr:Be k X.A) (hb:Binds X.K fd ps []) (hx:Cq CX X E) (ha:PA X (e::es) t)
 (hdb:(x==("__debug__":Str))=false:=by decide)
 (hst:starEach (e::es) X.env=(false,eval e X.env)::starEach es X.env:=by rfl) (hpl:(backTo pos (starEach es X.env)).any (·.1)=false:=by rfl)
 (ht:eval (.Call (.Attribute (.Name x p) m apos) (e::es) [] pos) X.env=(do
  let ov ←eval (.Name x p) X.env
  standAt apos.atName
  let (f,first) ←holding [ov] (getMethod ov m pl)
  callWith pos f first (backTo pos (starEach (e::es) X.env)) (backToKw pos (keywordEach [] X.env))):=by rfl) :
 PE X (.Call (.Attribute (.Name x p) m apos) (e::es) [] pos) (YQ sp E t):=by
 intro pins s σ H Q I h
 obtain⟨mc,hrd,hfc⟩:=c.mc
 refine qBB (pl:=pl) (Bv I hg hm ?_ hdb) ht
 refine PySem.W.method_cls I.kIn c.ga (PySem.W.cls_value I.kIn hrd hfc rfl ?_)
 have I1:L2.Inv X pins σ H { s with toks:=s.toks+1 }:=I.tok _
 refine qBj (first:=[]) (h₀:=X.base) I.ok.mod.kin c.kp (thn (ha pos pins _ σ H _ I1 h) fun us s2 ⟨vs,H2,I2,r,q2⟩=>⟨I2.kIn,?_⟩) hst hpl
 exact Hj (dvs:=[]) (ds:=[]) F hr hb .nil hx I2 r (by rw[qA0];exact q2)
end
end L3
namespace L3
open PySem PySem.Spec PyProof.Rows L2
def IS (ok:Addr→Prop)(f:Str):Sp:=fun vs H Q _=>∃a C dx v,vs=[.ref a,v]∧ok C∧H a=some (.ins C dx [])∧Q .non (upd H a (.ins C dx [(f,v)]))
section
variable {P:Program}{w:World}{K:PySem.W.Frag}{mg:Str→Option Value}{base:Heap}
theorem Pe {CX:CXT}{ok:Addr→Prop}{x qual sf y fl:Str}{st:Stmt}{f:Addr}{fd:FuncData}{N:List Str}{p1 p2 p3 p4:Pos} (F:Fun K x qual st f fd) (Sc:Av N [sf,y] (Ae st)) (hok:∀C,ok C→Cls K C∧AS K C fl)
 (hB:A4 st=[.Assign [.Attribute (.Name sf p1) fl p2] (.Name y p3) p4]) (v1:Vis (Ae st) sf) (v2:Vis (Ae st) y) (d1:(sf==("__debug__":Str))=false:=by decide) (d2:(y==("__debug__":Str))=false:=by decide)
 (c1:(sf==("__classdict__":Str))=false:=by decide) (c2:(y==("__classdict__":Str))=false:=by decide) :
 AJ P w K mg base CX 1 f fd [sf,y] (IS ok fl):=by
 obtain⟨oc,od,kV,doc,pm,an,cdv,ct,osl,rfl,lk,hcd⟩:=F.ex
 have n0:N[0]? = some sf:=by
  have:=Sc.pre
  match N,this with
  |a::b::r,e=>cases e;rfl
 have n1:N[1]? = some y:=by
  have:=Sc.pre
  match N,this with
  |a::b::r,e=>cases e;rfl
 refine JF lk hcd Sc (fun vs H Q E h=>by obtain⟨a,C,dx,v,rfl,_⟩:=h;rfl) fun A outer s H vs Q E hr hsp=>?_
 rw[hB]
 refine⟨_,FY (Jb (C2 (i:=0) n0 v1 d1 c1) (C2 (i:=1) n1 v2 d2 c2) rfl),?_⟩
 obtain⟨a,C,dx,v,rfl,hc,h1,q⟩:=hsp
 refine⟨v,rfl,.ref a,rfl,a,C,dx,[],rfl,h1,(hok C hc).1,(hok C hc).2,∅,q⟩
end
end L3
namespace L3
open PySem PySem.Spec PyProof.Rows L2
def mk1 (f:Str):List D→Option (List (Str×D))
 |[x]=>some [(f,x)]
 |_=>none
theorem Ik {K:PySem.W.Frag}{H:Hp}{vs:List V}{x:D} (h:Iss K H vs [x]):∃v,vs=[v]∧Is K H v x:=by
 have:=h.1
 match vs,this with
 |[v],_=>exact⟨v,rfl,h.2 0 v x rfl rfl⟩
theorem LB {P:Program}{w:World}{K:PySem.W.Frag}{mg:Str→Option Value}{base:Heap}{CX:CXT}{k:Nat}{f C:Addr}{fd:FuncData}{ps:List Str}{ok:Addr→Prop}{fl:Str} (F:AJ P w K mg base CX k f fd ps (IS ok fl)) (hC:ok C):AJ P w K mg base CX k f fd ps (LU K C (mk1 fl)) :=
 F.imp fun vs H Q E h=>by
  obtain⟨z,a,dx,us,ds,fs,rfl,h1,h2,h3,h4,h5,h6,h7,q⟩:=h
  match ds,h7,h6 with
  |[x],h7,h6 =>
   obtain⟨v,rfl,i⟩:=Ik h6
   cases h7
   exact⟨a,C,dx,v,rfl,hC,h1,q [(fl,v)] rfl h6⟩
end L3
namespace L3
open PySem PySem.Spec PyProof.Rows L2
def Ga (K:PySem.W.Frag)(C:Addr)(mk:List D→Option (List (Str×D))):Sp:=fun vs H Q _=>∃z a dx us ds fs,vs=.ref a::us∧H a=some (.ins C dx [])∧H dx=some (.own a)∧AU z H∧z a=none∧z dx=none∧Iss K z us ds∧mk ds=some fs ∧
 ∀q:HZ,Ext ⟨H,z⟩ q→∀gs:List (Str×V),gs.map (·.1)=fs.map (·.1)→Iss K q.z (gs.map (·.2)) (fs.map (·.2))→Q .non (upd q.h a (.ins C dx gs))
theorem WK {P:Program}{w:World}{K:PySem.W.Frag}{mg:Str→Option Value}{base:Heap}{CX:CXT}{k:Nat}{f C:Addr}{fd:FuncData}{ps:List Str}{mk:List D→Option (List (Str×D))} (F:AJ P w K mg base CX k f fd ps (LU K C mk)):AJ P w K mg base CX k f fd ps (Ga K C mk) :=
 F.imp fun vs H Q E h=>by
  obtain⟨z,a,dx,us,ds,fs,e0,h1,h2,h3,h4,h5,h6,h7,q⟩:=h
  exact⟨z,a,dx,us,ds,fs,e0,h1,h2,h3,h4,h5,h6,h7,fun gs g1 g2=>q ⟨H,z⟩ (Ext.refl h3) gs g1 g2⟩
section
variable {X:Cx}{x:Str}{p pos:Pos}{e:Expr}{es:List Expr}{tr:TA3}{C:Addr}{mk:List D→Option (List (Str×D))}
structure OC (P:Program)(w:World)(K:PySem.W.Frag)(mg:Str→Option Value)(base:Heap)(k:Nat)(x:Str)(C:Addr)(ps:List Str)(mk:List D→Option (List (Str×D))):Prop where
 at_:mg x=some (.ref C)
 nm:rA K x C
 ex:∃f fd,AJ P w K mg base (CXU P w) k f fd ps (Ga K C mk)∧Mk K C f∧Binds K fd ps []
theorem BH {k k':Nat}{ps:List Str} (hr:Be k' X.A) (c:OC X.prog X.w X.K X.mg X.base k x C ps mk) (ha:PA3 X (e::es) tr) (hk:k+1≤k':=by first|decide|omega) (hg:Gl X x:=by exact rfl)
 (hdb:(x==("__debug__":Str))=false:=by decide) (he:starEach (e::es) X.env=(false,eval e X.env)::starEach es X.env:=by exact AI rfl) (hpl:(backTo pos (starEach es X.env)).any (·.1)=false:=by exact A1 rfl) :
 PE3 X (.Call (.Name x p) (e::es) [] pos) (Ra x mk tr):=by
 obtain⟨f,fd,F,M,hb⟩:=c.ex
 refine⟨Al (Lb (dvs:=[]) (ds:=[]) (E:=fun _ _ _=>False) M F (hr.mono hk) hg c.at_ hb .nil (fun pins σ H s e s' I h=>?_) ha.out hdb he hpl) fun σ H Q hh=>?_⟩
 ·obtain⟨_,_,_,_,_,_,_,_,_,z⟩:=h
  exact z.elim
 obtain⟨B,z,τ,R,r,ht,q⟩:=hh
 refine⟨B,_,τ,_,r,ht,fun ss vs H1 e1 i1 h1=>?_⟩
 obtain⟨ds,fs,hu,hm,hR⟩:=h1
 have es:=LA hu
 subst es
 intro a dx ha0 hd0 ne
 have za:H1.z a=none:=e1.sub.free ha0
 have zd:H1.z dx=none:=e1.sub.free hd0
 refine⟨H1.z,a,dx,vs,ds,fs,by rw[qA0],Ac,by rw[Af ne];exact Ac,fun b o hb=>?_,za,zd,⟨?_,fun i v x hv hx=>?_⟩,hm,fun q1 E1 gs hgs hi=>⟨rfl,?_⟩⟩
 ·have b1:b≠a:=fun z=>by rw[z,za] at hb;cases hb
  have b2:b≠dx:=fun z=>by rw[z,zd] at hb;cases hb
  rw[Af b1,Af b2]
  exact e1.sub b o hb
 ·have:=i1.1
  rw[qAf] at this
  exact this
 ·exact(i1.2 i v (.d x) hv (by rw[qAl,hx];rfl)).1
 ·have ga:(upd (upd H1.h dx (.own a)) a (.ins C dx [])) a=some (.ins C dx []):=Ac
  have gd:(upd (upd H1.h dx (.own a)) a (.ins C dx [])) dx=some (.own a):=by rw[Af ne];exact Ac
  have qd:q1.h dx=some (.own a):=E1.hh _ _ gd
  have na:q1.z a=none:=by
   cases e:q1.z a with
   |none=>rfl
   |some o =>
    rcases E1.new a o e with h|h
    ·rw[show H1.z a=some o from h] at za;cases za
    ·rw[show(upd (upd H1.h dx (.own a)) a (.ins C dx [])) a=none from h] at ga;cases ga
  have nd:q1.z dx=none:=by
   cases e:q1.z dx with
   |none=>rfl
   |some o =>
    rcases E1.new dx o e with h|h
    ·rw[show H1.z dx=some o from h] at zd;cases zd
    ·rw[show(upd (upd H1.h dx (.own a)) a (.ins C dx [])) dx=none from h] at gd;cases gd
  have zz:AU q1.z (upd (upd q1.z dx (.own a)) a (.ins C dx gs)):=fun b o hb=>by
   have b1:b≠a:=fun z=>by rw[z,na] at hb;cases hb
   have b2:b≠dx:=fun z=>by rw[z,nd] at hb;cases hb
   rw[Af b1,Af b2]
   exact hb
  have E2:Ext H1 ⟨upd q1.h a (.ins C dx gs),upd (upd q1.z dx (.own a)) a (.ins C dx gs)⟩:=by
   refine⟨fun b o hb=>?_,fun b o hb=>zz b o (E1.zz b o hb),fun b o hb=>?_,fun b o hb=>?_⟩
   ·have b1:b≠a:=fun z=>by rw[z,ha0] at hb;cases hb
    have b2:b≠dx:=fun z=>by rw[z,hd0] at hb;cases hb
    show upd _ a _ b=some o
    rw[Af b1]
    refine E1.hh b o ?_
    show upd _ a _ b=some o
    rw[Af b1,Af b2]
    exact hb
   ·have hb:upd (upd q1.z dx (.own a)) a (.ins C dx gs) b=some o:=hb
    show upd _ a _ b=some o
    by_cases b1:b=a
    ·subst b1
     rw[Ac] at hb ⊢
     exact hb
    ·rw[Af b1] at hb ⊢
     by_cases b2:b=dx
     ·subst b2
      rw[Ac] at hb
      rw[qd]
      exact hb
     ·rw[Af b2] at hb
      exact E1.sub b o hb
   ·have hb:upd (upd q1.z dx (.own a)) a (.ins C dx gs) b=some o:=hb
    by_cases b1:b=a
    ·subst b1;exact .inr ha0
    ·rw[Af b1] at hb
     by_cases b2:b=dx
     ·subst b2;exact .inr hd0
     ·rw[Af b2] at hb
      rcases E1.new b o hb with h|h
      ·exact .inl h
      ·have h:upd (upd H1.h dx (.own a)) a (.ins C dx []) b=none:=h
       rw[Af b1,Af b2] at h
       exact .inr h
  refine q (.d _) (.ref a) _ (e1.trans E2) ?_ Bp hR
  refine Is.obj (dx:=dx) (fs:=gs) c.nm Ac (by show upd _ a _ dx=_;rw[Af ne];exact Ac) hgs ?_ fun i g y hg hy=>?_
  ·have:=congrArg List.length hgs
   rw[qAf,qAf] at this
   rw[qAf]
   exact this
  ·exact(hi.2 i g.2 y (by rw[qAl,hg];rfl) hy).mono zz
end
end L3
namespace L3
open PySem PySem.Spec PyProof.Rows L2
theorem Ey {H:Hp}{a:Addr}{x y:HO}:upd (upd H a x) a y=upd H a y:=by
 funext b
 by_cases h:b=a
 ·subst h;rw[Ac,Ac]
 ·rw[Af h,Af h,Af h]
def mkW (fl f1 f2 f3:Str)(mj:D→D→D→Option D):List D→Option (List (Str×D))
 |[a,b,c]=>(mj a b c).map fun x=>[(fl,x),(f1,a),(f2,b),(f3,c)]
 |_=>none
section
variable {P:Program}{w:World}{K:PySem.W.Frag}{mg:Str→Option Value}{base:Heap}
theorem Pb {ok:Addr→Prop}{x qual sf y1 y2 y3 fl f1 f2 f3 Tn:Str}{st:Stmt}{f fT C CT:Addr}{fd fdT:FuncData}{psT:List Str}{kT k:Nat}{mj:D→D→D→Option D}{eJ:Expr}{pl:Env→Sem Bool}{q1 q2 q3 q4 q5 p11 p12 p13 p14 p21 p22 p23 p24 p31 p32 p33 p34:Pos}
 (FT:AJ P w K mg base (CXU P w) kT fT fdT psT (IS ok fl)) (hbT:Binds K fdT psT []) (cT:CFn K CT "__init__" fT) (atT:mg Tn=some (.ref CT)) (hkT:kT≤k)
 (F:Fun K x qual st f fd) (Sc:Av [sf,y1,y2,y3] [sf,y1,y2,y3] (Ae st)) (hokC:ok C) (hcl:Cls K C) (na1:AS K C f1) (na2:AS K C f2) (na3:AS K C f3) (nd:[fl,f1,f2,f3].Nodup)
 (hB:A4 st=[.Expr (.Call (.Attribute (.Name Tn q1) "__init__" q2) [.Name sf q3,eJ] [] q4) q5,.Assign [.Attribute (.Name sf p11) f1 p12] (.Name y1 p13) p14,.Assign [.Attribute (.Name sf p21) f2 p22] (.Name y2 p23) p24,.Assign [.Attribute (.Name sf p31) f3 p32] (.Name y3 p33) p34])
 (v0:Vis (Ae st) sf) (v1:Vis (Ae st) y1) (v2:Vis (Ae st) y2) (v3:Vis (Ae st) y3)
 (hd:∀z∈[sf,y1,y2,y3,Tn],(z==("__debug__":Str))=false∧(z==("__classdict__":Str))=false)
 (hgT:∀cdv A outer s H E,Gl (Fn (CXU P w) P w K mg base [sf,y1,y2,y3] qual (Ae st) f cdv A outer s H E) Tn)
 (hst:∀env:Env,starEach [eJ] env=(false,eval eJ env)::starEach [] env)
 (hst2:∀env:Env,starEach [.Name sf q3,eJ] env=(false,eval (.Name sf q3) env)::starEach [eJ] env)
 (hsw:∀env:Env,swapsWith (.Call (.Attribute (.Name Tn q1) "__init__" q2) [.Name sf q3,eJ] [] q4) none q5.line env=pure false)
 (ht:∀env:Env,eval (.Call (.Attribute (.Name Tn q1) "__init__" q2) [.Name sf q3,eJ] [] q4) env=(do
  let ov ←eval (.Name Tn q1) env
  standAt q2.atName
  let (f,first) ←holding [ov] (getMethod ov "__init__" (pl env))
  callWith q4 f first (backTo q4 (starEach [.Name sf q3,eJ] env)) (backToKw q4 (keywordEach [] env))))
 (hJ:∀cdv A outer s H E,Be k (A.deeper (envOfC qual (Ae st) s.heap.objs.size f cdv))→∃t,PE3 (Fn (CXU P w) P w K mg base [sf,y1,y2,y3] qual (Ae st) f cdv A outer s H E) eJ t∧∀d1 d2 d3 x,mj d1 d2 d3=some x→t [none,some (.d d1),some (.d d2),some (.d d3)] (fun s=>s=.d x)) :
 AJ P w K mg base (CXU P w) (k+1) f fd [sf,y1,y2,y3] (Ga K C (mkW fl f1 f2 f3 mj)):=by
 obtain⟨oc,od,kV,doc,pm,an,cdv,ct,osl,rfl,lk,hcd⟩:=F.ex
 have iss3':∀{z:Hp}{us:List V} {ds fs},Iss K z us ds→mkW fl f1 f2 f3 mj ds=some fs→∃v1 v2 v3 d1 d2 d3 x,us=[v1,v2,v3]∧ds=[d1,d2,d3]∧mj d1 d2 d3=some x∧fs=[(fl,x),(f1,d1),(f2,d2),(f3,d3)]:=by
  intro z us ds fs h hm
  match ds,hm,h with
  |[d1,d2,d3],hm,h =>
   match us,h.1 with
   |[v1,v2,v3],_ =>
    cases e:mj d1 d2 d3 with
    |none=>rw[show mkW fl f1 f2 f3 mj [d1,d2,d3]=(mj d1 d2 d3).map fun x=>[(fl,x),(f1,d1),(f2,d2),(f3,d3)] from rfl,e] at hm;cases hm
    |some x =>
     rw[show mkW fl f1 f2 f3 mj [d1,d2,d3]=(mj d1 d2 d3).map fun x=>[(fl,x),(f1,d1),(f2,d2),(f3,d3)] from rfl,e] at hm
     cases hm
     exact⟨v1,v2,v3,d1,d2,d3,x,rfl,rfl,e,rfl⟩
 refine JF lk hcd Sc (fun vs H Q E h=>by
  obtain⟨z,a,dx,us,ds,fs,rfl,_,_,_,_,_,h6,h7,_⟩:=h
  obtain⟨v1,v2,v3,_,_,_,_,rfl,_⟩:=iss3' h6 h7
  rfl) fun A outer s H vs Q E hr hsp=>?_
 rw[hB]
 obtain⟨t,hP,hR⟩:=hJ cdv A outer s H E hr
 refine⟨_,BS (H0 (SQ (pl:=pl _) (E:=fun _ _ _=>False) (hgT cdv A outer s H E) atT cT FT (hr.mono hkT) hbT (fun pins σ H s e s' I h=>?_) (Az (C2 (i:=0) rfl v0 (hd sf (by simp)).1 (hd sf (by simp)).2) (Az hP.out A5 (hst _)) (hst2 _)) (hd Tn (by simp)).1 (hst2 _) (by rw[hst];rfl) (ht _)) (hsw _))
  (BS (Jb (C2 (i:=0) rfl v0 (hd sf (by simp)).1 (hd sf (by simp)).2) (C2 (i:=1) rfl v1 (hd y1 (by simp)).1 (hd y1 (by simp)).2) rfl)
  (BS (Jb (C2 (i:=0) rfl v0 (hd sf (by simp)).1 (hd sf (by simp)).2) (C2 (i:=2) rfl v2 (hd y2 (by simp)).1 (hd y2 (by simp)).2) rfl)
  (FY (Jb (C2 (i:=0) rfl v0 (hd sf (by simp)).1 (hd sf (by simp)).2) (C2 (i:=3) rfl v3 (hd y3 (by simp)).1 (hd y3 (by simp)).2) rfl)))),?_⟩
 ·obtain⟨_,_,_,_,_,_,_,_,_,z⟩:=h
  exact z.elim
 obtain⟨z,a,dx,us,ds,fs,rfl,h1,h2,h3,h4,h5,h6,h7,q⟩:=hsp
 obtain⟨u1,u2,u3,d1,d2,d3,jx,rfl,rfl,hj,rfl⟩:=iss3' h6 h7
 have hi:=h6
 have rep:Rep (Fn (CXU P w) P w K mg base [sf,y1,y2,y3] qual (Ae st) f cdv A outer s H E) ⟨H,z⟩ [none,some (.d d1),some (.d d2),some (.d d3)] (L2.start [sf,y1,y2,y3] [.ref a,u1,u2,u3]) ⟨H,z⟩:=by
  refine⟨rfl,Ext.refl h3,fun i s hs=>?_,fun i xs b z1 _=>?_,fun i j xs s b _ z1 _ _ _=>?_,fun _=>AU.refl _,fun k b e=>by cases e⟩
  ·match i,hs with
   |1,hs=>cases hs;exact⟨u1,rfl,hi.2 0 u1 d1 rfl rfl⟩
   |2,hs=>cases hs;exact⟨u2,rfl,hi.2 1 u2 d2 rfl rfl⟩
   |3,hs=>cases hs;exact⟨u3,rfl,hi.2 2 u3 d3 rfl rfl⟩
   |(n+4),hs=>cases hs
  ·match i,z1 with
   |(n+4),z1=>cases z1
  ·match i,z1 with
   |(n+4),z1=>cases z1
 refine⟨.ref a,rfl,⟨H,z⟩,z,[none,some (.d d1),some (.d d2),some (.d d3)],_,rep,hR d1 d2 d3 jx hj,fun s' v q1 E1 i1 f1' hs=>?_⟩
 subst hs
 have n1:fl≠f1:=fun e=>by rw[e] at nd;simp at nd
 have n2:fl≠f2:=fun e=>by rw[e] at nd;simp at nd
 have n3:fl≠f3:=fun e=>by rw[e] at nd;simp at nd
 have n4:f1≠f2:=fun e=>by rw[e] at nd;simp at nd
 have n5:f1≠f3:=fun e=>by rw[e] at nd;simp at nd
 have n6:f2≠f3:=fun e=>by rw[e] at nd;simp at nd
 have e1:El f1 u1 [(fl,v)]=[(fl,v),(f1,u1)]:=by simp[El,n1]
 have e2:El f2 u2 [(fl,v),(f1,u1)]=[(fl,v),(f1,u1),(f2,u2)]:=by simp[El,n2,n4]
 have e3:El f3 u3 [(fl,v),(f1,u1),(f2,u2)]=[(fl,v),(f1,u1),(f2,u2),(f3,u3)]:=by simp[El,n3,n5,n6]
 refine⟨a,C,dx,v,rfl,hokC,E1.hh _ _ h1,?_⟩
 refine⟨u1,rfl,.ref a,rfl,a,C,dx,_,rfl,Ac,hcl,na1,by show 1<1000;decide,?_⟩
 rw[e1]
 refine⟨u2,rfl,.ref a,rfl,a,C,dx,_,rfl,Ac,hcl,na2,by show 2<1000;decide,?_⟩
 rw[e2]
 refine⟨u3,rfl,.ref a,rfl,a,C,dx,_,rfl,Ac,hcl,na3,by show 3<1000;decide,?_⟩
 rw[e3]
 show Q .non (upd (upd (upd (upd q1.h a _) a _) a _) a _)
 rw[Ey,Ey,Ey]
 refine q q1 E1 [(fl,v),(f1,u1),(f2,u2),(f3,u3)] rfl ⟨rfl,fun i v' x' hv hx=>?_⟩
 match i,hv,hx with
 |0,hv,hx=>cases hv;cases hx;exact i1
 |(n+1),hv,hx=>exact(hi.mono E1.zz).2 n v' x' hv hx
end
end L3
namespace L3
open PySem PySem.Spec PyProof.Rows L2
def kvv (ks:List Str):List (Key×Value):=ks.map fun x=>(.inr x,.bool true)
theorem HY:∀{ks:List Str}{vs:List (Key×Value)},KV (kts ks) vs→vs=kvv ks
 |[],_,h=>by cases h;rfl
 |x::ks,_,h=>by
  have h':KV ((.inr x,.bl true)::kts ks) _:=h
  cases h' with
  |@cons p q ps qs r t =>
   obtain⟨q1,q2⟩:=q
   obtain⟨r1,r2⟩:=r
   have r1:Sum.inr x=q1:=r1
   have r2:q2=.bool true:=r2
   subst r1;subst r2
   rw[HY t]
   rfl
theorem HW:∀ks:List Str,KV (kts ks) (kvv ks)
 |[]=>.nil
 |_::ks=>.cons ⟨rfl,rfl⟩ (HW ks)
def HN (ks:List Str)(x:Str):List Str:=if x∈ks then ks else ks++[x]
theorem JM (ks:List Str)(x:Str):stored (kvv ks) (.inr x) (.bool true)=kvv (HN ks x):=by
 unfold stored HN
 have h1:(kvv ks).any (fun kv=>decide (kv.1=(Sum.inr x:Key)))=decide (x∈ks):=by
  induction ks with
  |nil=>rfl
  |cons a r ih =>
   show(decide ((Sum.inr a:Key)=Sum.inr x)||(kvv r).any (fun kv=>decide (kv.1=(Sum.inr x:Key))))=_
   rw[ih]
   by_cases h:a=x
   ·subst h;simp
   ·have:¬(Sum.inr a:Key)=Sum.inr x:=fun z=>h (Sum.inr.inj z)
    have h':¬x=a:=fun z=>h z.symm
    simp[this,h']
 rw[h1]
 by_cases h:x∈ks
 ·rw[if_pos (decide_eq_true h),if_pos h]
  clear h1 h
  induction ks with
  |nil=>rfl
  |cons a r ih =>
   show(if (Sum.inr a:Key)=Sum.inr x then ((Sum.inr a:Key),Value.bool true) else ((Sum.inr a:Key),Value.bool true))::(kvv r).map (fun kv=>if kv.1=(Sum.inr x:Key) then (kv.1,Value.bool true) else kv)=_
   rw[ite_self,ih]
   rfl
 ·rw[if_neg (by simpa using h),if_neg h]
  simp[kvv]
theorem FN (ks:List Str)(x:Str):(HN ks x).length≤ks.length+1:=by
 unfold HN
 split
 ·omega
 ·rw[qAa];exact qAg _
theorem DO {ks:List Str} (x:Str) (h:ks.Nodup):(HN ks x).Nodup:=by
 unfold HN
 split
 ·exact h
 ·rename_i n
  rw[List.nodup_append]
  exact⟨h,by simp,fun a ha b hb=>by
   have:b=x:=by simpa using hb
   subst this
   rintro rfl
   exact n ha⟩
theorem Fy {ks:List Str}{x y:Str}:y∈HN ks x ↔ y∈ks∨y=x:=by
 unfold HN
 split
 ·rename_i h
  refine⟨.inl,fun z=>z.elim id fun e=>e ▸ h⟩
 ·simp
section
variable {X:Cx}{pins:List (Addr×Obj)}{σ:L2.St}{H:Hp}{s:Shared}
theorem OK (I:L2.Inv X pins σ H s):sysModules<s.heap.objs.size:=by
 have h:mainGlobals<s.heap.objs.size:=(I.mod.glob.keeps I.bk).lt
 exact qBf ∅ h
theorem Hu (I:L2.Inv X pins σ H s){b:Addr} (hb:s.heap.objs.size≤b):X.K.lookup b=none:=by
 cases e:X.K.lookup b with
 |none=>rfl
 |some o=>exact absurd (qAh (I.kIn _ _ e)) (qCN.mpr hb)
theorem O9 {kx vx:Expr}{pos:Pos}{tk:TE} (hk:PE X kx tk) (hv:PE X vx (tC (.bl true))) :
 PE X (.Dict [some kx] [vx] pos) (fun σ H Q=>∀p,H p=none→X.K.lookup p=none→tk σ (upd H p (.dK [])) fun y H2=>∃x,y=.str x∧H2 p=some (.dK [])∧Q (.ref p) (upd H2 p (.dK (kts [x])))):=by
 intro pins s σ H Q I q
 have hn:=I.hok.fresh (qAg s.heap.objs.size)
 have I1:=I.laid (a:=s.heap.objs.size) (o:=.dK []) (h':=s.heap.push { cls:=.type "dict",data:=.dict #[] }) (t':=s.toks) (fun _ _ q=>qAb _ q) (qAg _)
  ⟨qAw _,beq_eq_false_iff_ne.mpr (Ne.symm (qAo (OK I))),[],.nil,Heap.DictOf.new s.heap⟩
 refine wpAny_Dict_walk (knd:=Cb X.prog X.w) rfl rfl (by simp) (show 1≤15 from ∅) (pairTrees_cons_walk (thn (hk pins _ σ _ _ I1 (q _ hn (Hu I (qAg _)))) fun u s1 ⟨y,H1,I2,ry,x,ey,e,q2⟩=>thn (hv pins s1 σ H1 (fun v H'=>v=.bl true∧H'=H1) I2 ⟨rfl,rfl⟩) fun w2 s2 ⟨y2,H2,I3,ry2,ey2,eH⟩=>pairTrees_nil_walk ?_))
 subst ey ey2 eH
 obtain⟨t,rfl⟩:=ry
 cases ry2
 obtain⟨z,hd,vs0,r0,dd⟩:Bj X.prog X.w H2 s2.heap s.heap.objs.size (.dK []):=I3.hok _ _ e
 cases r0
 refine⟨kvv [x],⟨EC X.prog X.w x t,rfl,True.intro⟩,dd,fun h' dd' hs=>⟨.ref s.heap.objs.size,_,?_,rfl,q2⟩⟩
 have he:∃q,h'.get? s.heap.objs.size=some q:=let ⟨q,_,_,hq,_⟩:=dd';⟨q,hq⟩
 exact I3.write (x:=s.heap.objs.size) (e:=s.heap.objs.size) (by rw[e];exact True.intro) (.inl rfl) (fun b q hb z=>(hs.2 b hb).trans z) he ⟨by show 1≤sizeLine;rw[sizeLine_eq];decide,hd,kvv [x],HW _,dd'⟩
theorem O5 {o i value:Expr}{pos pos':Pos}{td ty:TE} (ho:PE X o td) (hi:PE X i ty) (hv:PE X value (tC (.bl true))) (hs:swapsWith value (some (.Subscript o i pos')) pos.line X.env=pure false) :
 PS X (.Assign [.Subscript o i pos'] value pos) (fun D σ H=>td σ H fun x H2=>ty σ H2 fun y H3=>∃a k ks,x=.ref a∧y=.str k∧H3 a=some (.dK (kts ks))∧ks.length<sizeLine∧D.nx σ (upd H3 a (.dK (kts (HN ks k))))):=by
 intro pins s σ H D I h
 refine wpAny_Assign_Subscript (thn (hv pins s σ H (fun v H'=>v=.bl true∧H'=H) I ⟨rfl,rfl⟩) fun r s1 ⟨v,H1,I1,rv,ev,eH⟩=>?_) hs
 subst ev eH
 cases rv
 refine thn (ho pins s1 σ H1 _ I1 h) fun u s2 ⟨x,H2,I2,rx,q2⟩=>thn (hi pins s2 σ H2 _ I2 q2) fun iv s3 ⟨y,H3,I3,ry,a,k,ks,ex,ey,e,l,q3⟩=>?_
 subst ex ey
 obtain rfl:u=Value.ref a:=rx
 obtain⟨t,rfl⟩:=ry
 obtain⟨z,hd,vs,rel,dd⟩:Bj X.prog X.w H3 s3.heap a (.dK (kts ks)):=I3.hok _ _ e
 cases HY rel
 have hz:(kvv ks).length≤sizeLine:=by unfold kvv;rw[qAf];omega
 refine wpAny_setItem_pairs (hsz:=hz) (EC X.prog X.w k t) dd fun h' dd' hs=>?_
 have he:∃q,h'.get? a=some q:=let ⟨q,_,_,hq,_⟩:=dd';⟨q,hq⟩
 rw[JM] at dd'
 have ln:(kts (HN ks k)).length≤sizeLine:=by have:=FN ks k;unfold kts;rw[qAf];omega
 exact⟨σ,_,I3.write (x:=a) (e:=a) (o:=.dK (kts (HN ks k))) (t':=s3.toks+1) (by rw[e];exact True.intro) (.inl rfl) (fun b q hb z=>(hs.2 b hb).trans z) he ⟨ln,hd,_,HW _,dd'⟩,q3⟩
theorem Jq (hc:X.calm=true):A7 X (.type "list") (fun xs H Q=>∃a ks,xs=[V.ref a]∧H a=some (.dK (kts ks))∧∀l,H l=none→X.K.lookup l=none→Q (.ref l) (upd H l (.lst (ks.map V.str)))):=by
 intro pins s σ H xs us Q I r h
 obtain⟨a,ks,rfl,e,q⟩:=h
 obtain⟨u,rfl,rx⟩:=Bd r
 cases rx
 obtain⟨z,hd,vs,rel,dd⟩:Bj X.prog X.w H s.heap a (.dK (kts ks)):=I.hok _ _ e
 cases HY rel
 obtain⟨ep,da⟩:∃ep,s.heap.DictAt (Cb X.prog X.w) a (kvv ks) ep:=let ⟨o,es,ep,r⟩:=dd;⟨ep,o,es,r⟩
 have hz:(kvv ks).length≤sizeLine:=by unfold kvv;unfold kts at z;rw[qAf] at z ⊢;exact z
 refine PySem.W.kdl_call (PySem.W.kdl_dict hd) (I.ok.hd hc) da hz fun h' tk acc' c' hk hD hacc=>?_
 have hf:=I.hok.fresh (qAg s.heap.objs.size)
 have la:acc'.toList.length=ks.length:=by
  have:=hacc.1
  unfold kvv at this
  rw[qAf] at this
  rw[Array.length_toList];exact this
 have hv:AA (ks.map V.str) acc'.toList:=by
  have key:∀(ks:List Str)(us:List Value),us.length=ks.length→(∀(j:Nat) v,us[j]? = some v→∃k x,(kvv ks)[j]? = some (k,x)∧(Cb X.prog X.w).is k v=true)→AA (ks.map V.str) us:=by
   intro ks
   induction ks with
   |nil=>intro us hl _;cases us with
    |nil=>exact .nil
    |cons _ _=>cases hl
   |cons k ks ih=>intro us hl hu;cases us with
    |nil=>cases hl
    |cons u us =>
     obtain⟨k',x',e1,e2⟩:=hu 0 u rfl
     cases e1
     refine .cons ?_ (ih us (by simpa using hl) fun j v e=>by simpa [kvv] using hu (j+1) v (by simpa using e))
     rcases AM (show Hs (.inr k) u=true from e2) with⟨i,t,h1,_⟩|⟨x,t,h1,h2⟩
     ·cases h1
     ·cases h1;exact⟨t,h2⟩
  exact key ks acc'.toList la fun j v e=>hacc.2 j v (by rw[←Array.getElem?_toList];exact e)
 exact⟨.ref s.heap.objs.size,_,I.laid (t':=tk) (o:=.lst (ks.map V.str)) hk (qAg _) ⟨by rw[qAf];unfold kvv at hz;rw[qAf] at hz;exact hz,acc'.toList,c',hv,by simpa using hD⟩,rfl,q _ hf (Hu I (qAg _))⟩
end
end L3
namespace L3
open PySem PySem.Spec PyProof.Rows L2
structure DAt (B p:HZ)(a:Addr)(ks:List Str):Prop where
 at_:p.h a=some (.dK (kts ks))
 base:B.h a=none
 zz:p.z a=none
structure Q2 where
 nx:Tau→List Str→Prop
 rt:S→Prop
 bk:Tau→List Str→Prop
 ct:Tau→List Str→Prop
abbrev TSK:=Addr→Q2→Tau→List Str→Prop
structure Uy (X:Cx)(B:HZ)(a:Addr)(DK:Q2)(D2:GI):Prop where
 nx:∀τ ks σ p,Rep X B τ σ p→DAt B p a ks→DK.nx τ ks→D2.nx σ p.h
 bk:∀τ ks σ p,Rep X B τ σ p→DAt B p a ks→DK.bk τ ks→D2.bk σ p.h
 ct:∀τ ks σ p,Rep X B τ σ p→DAt B p a ks→DK.ct τ ks→D2.ct σ p.h
 rt:∀s v q,Ext B q→IsS X.K q v s→Fr3 X.K B q v s→DK.rt s→D2.rt v q.h
def FSK (X:Cx)(t:TSK):TS:=fun D2 σ H=>∃B z τ a ks DK,Rep X B τ σ ⟨H,z⟩∧DAt B ⟨H,z⟩ a ks∧t a DK τ ks∧Uy X B a DK D2
structure PSK (X:Cx)(st:Stmt)(t:TSK):Prop where
 out:PS X st (FSK X t)
structure Kh (X:Cx)(st:List Stmt)(t:TSK):Prop where
 out:PSs X st (FSK X t)
section
variable {X:Cx}{B p q:HZ}{τ:Tau}{σ:St}{a:Addr}{ks:List Str}
theorem DAt.ext (d:DAt B p a ks)(e:Ext p q):DAt B q a ks:=⟨e.hh _ _ d.at_,d.base,by
 cases z:q.z a with
 |none=>rfl
 |some o =>
  rcases e.new a o z with x|x
  ·rw[d.zz] at x;cases x
  ·rw[d.at_] at x;cases x⟩
theorem Rep.noL (r:Rep X B τ σ p)(h:p.h a=some (.dK (kts ks))):∀(i:Nat)(xs:List D),τ[i]? = some (some (S.l xs))→σ[i]?≠some (some (V.ref a)):=fun i xs h1 h2=>by
 obtain⟨vs,hv,_⟩:=r.own_list h1 h2
 rw[h] at hv
 cases hv
theorem Rep.but {o:HO}{H z:Hp} (r:Rep X B τ σ ⟨H,z⟩) (h:H a=some (.dK (kts ks))) (hb:B.h a=none) (hz:z a=none):Rep X B τ σ ⟨upd H a o,z⟩:=by
 have ne:∀{c:Addr}{u:HO},H c=some u→u≠.dK (kts ks)→c≠a:=fun {c u} h1 h2 h3=>by
  subst h3
  rw[h] at h1
  cases h1
  exact h2 rfl
 refine⟨r.len,⟨fun b u e=>?_,r.ext.zz,fun b u e=>?_,r.ext.new⟩,fun i s h1=>?_,r.own,r.sep,r.top,r.pin⟩
 ·show upd H a o b=some u
  rw[Af (Am e hb)]
  exact r.ext.hh _ _ e
 ·show upd H a o b=some u
  rw[Af (Am e hz)]
  exact r.ext.sub _ _ e
 ·obtain⟨v,h2,h3⟩:=r.val i s h1
  refine⟨v,h2,?_⟩
  cases s with
  |d x=>exact h3
  |l xs =>
   obtain⟨c,vs,e1,e2,e3⟩:=h3
   exact⟨c,vs,e1,by show upd H a o c=_;rw[Af (ne e2 (fun z=>nomatch z))];exact e2,e3⟩
  |r xs =>
   obtain⟨c,vs,e1,e2,e3⟩:=h3
   refine⟨c,vs,e1,?_,e3⟩
   rcases e2 with (e2|⟨ob,e2⟩)|e2
   ·exact .inl (.inl (by show upd H a o c=_;rw[Af (ne e2 (fun z=>nomatch z))];exact e2))
   ·exact .inl (.inr ⟨ob,by show upd H a o c=_;rw[Af (ne e2 (fun z=>nomatch z))];exact e2⟩)
   ·exact .inr e2
theorem Rep.frzD {H z:Hp} (r:Rep X B τ σ ⟨H,z⟩) (d:DAt B ⟨H,z⟩ a ks):Rep X B τ σ ⟨H,upd z a (.dK (kts ks))⟩:=by
 have zz:AU z (upd z a (.dK (kts ks))):=AY d.zz _
 refine⟨r.len,r.ext.freeze d.base d.zz d.at_,fun i s h1=>?_,fun i xs c h1 h2=>?_,r.sep,r.top,r.pin⟩
 ·obtain⟨v,h2,h3⟩:=r.val i s h1
  refine⟨v,h2,?_⟩
  cases s with
  |d x=>exact Is.mono zz h3
  |l zs=>obtain⟨c,us,e1,q1,q2⟩:=h3;exact⟨c,us,e1,q1,q2.mono zz⟩
  |r zs=>obtain⟨c,us,e1,q1,q2⟩:=h3;exact⟨c,us,e1,q1,q2.mono zz⟩
 ·obtain⟨q1,q2,q3⟩:=r.own i xs c h1 h2
  refine⟨q1,q2,?_⟩
  show upd z a _ c=none
  rw[Af (fun e=>r.noL (a:=a) d.at_ i xs h1 (by rw[←e];exact h2))]
  exact q3
theorem MT {α:Type}{l:List α}{i:Nat}{x:α} (h:l[i]? = some x):l.set i x=l:=by
 apply qA1
 intro j
 rw[qCp]
 by_cases e:i=j
 ·subst e
  rw[if_pos rfl,h,if_pos (qAj.mp h).1]
 ·rw[if_neg e]
end
section
variable {X:Cx}{st:Stmt}{rest' as bs:List Stmt}{t u:TSK}{pos:Pos}{e:Expr}
def Uv (t:TS3):TSK:=fun _ DK τ ks=>t ⟨fun τ'=>DK.nx τ' ks,DK.rt,fun τ'=>DK.bk τ' ks,fun τ'=>DK.ct τ' ks⟩ τ
theorem DS {t:TS3} (h:PS3 X st t):PSK X st (Uv t):=⟨AF h.out fun D2 σ H hh=>by
 obtain⟨B,z,τ,a,ks,DK,r,d,ht,c⟩:=hh
 have ca:Eu τ σ H a=some (.dK (kts ks)):=by rw[DC (r.noL d.at_)];exact d.at_
 have tr:∀{p:HZ},Ext ⟨Eu τ σ H,z⟩ p→DAt B p a ks:=fun {p} e=>⟨e.hh _ _ ca,d.base,by
  cases y:p.z a with
  |none=>rfl
  |some o =>
   rcases e.new a o y with x|x
   ·have x:z a=some o:=x
    have:=d.zz
    rw[show(⟨H,z⟩:HZ).z a=z a from rfl,x] at this;cases this
   ·have x:Eu τ σ H a=none:=x
    rw[ca] at x;cases x⟩
 exact⟨⟨Eu τ σ H,z⟩,z,τ,_,r.inB,ht,⟨fun τ' σ' p' r' h'=>c.nx τ' ks σ' p' (r'.outB r.leB) (tr r'.ext) h',fun τ' σ' p' r' h'=>c.bk τ' ks σ' p' (r'.outB r.leB) (tr r'.ext) h',fun τ' σ' p' r' h'=>c.ct τ' ks σ' p' (r'.outB r.leB) (tr r'.ext) h',
  fun s v q h1 h2 h3 h4=>c.rt s v q (r.leB.ext h1) h2 (fun xs b x1 x2=>⟨r.leB.hh.free (h3 xs b x1 x2).1,(h3 xs b x1 x2).2⟩) h4⟩⟩⟩
theorem N3 (h:PSK X st t):Kh X [st] t:=⟨FY h.out⟩
def XS (t u:TSK):TSK:=fun a DK τ ks=>t a { DK with nx:=u a DK } τ ks
theorem Ca (h1:PSK X st t)(h2:Kh X rest' u):Kh X (st::rest') (XS t u):=⟨Bw (BS h1.out h2.out) fun D2 σ H hh=>by
 obtain⟨B,z,τ,a,ks,DK,r,d,ht,c⟩:=hh
 exact⟨B,_,τ,a,ks,{ DK with nx:=u a DK },r,d,ht,⟨fun τ' ks' σ' p' r' d' h'=>⟨B,_,τ',a,ks',DK,r',d',h',c⟩,c.bk,c.ct,c.rt⟩⟩⟩
def Y9 (t u:TSK):TSK:=fun a DK τ ks=>∃mid:Tau→List Str→Prop,t a { DK with nx:=mid } τ ks∧∀τ' ks',mid τ' ks'→u a DK τ' ks'
theorem Q5 (h1:PSK X st t)(h2:Kh X rest' u):Kh X (st::rest') (Y9 t u):=⟨Bw (BS h1.out h2.out) fun D2 σ H hh=>by
 obtain⟨B,z,τ,a,ks,DK,r,d,⟨mid,ht,hm⟩,c⟩:=hh
 exact⟨B,_,τ,a,ks,{ DK with nx:=mid },r,d,ht,⟨fun τ' ks' σ' p' r' d' h'=>⟨B,_,τ',a,ks',DK,r',d',hm τ' ks' h',c⟩,c.bk,c.ct,c.rt⟩⟩⟩
def U6:TSK:=fun _ DK τ ks=>DK.nx τ ks
theorem R9:Kh X [] U6:=⟨Bw LX fun _ _ _ ⟨_,_,_,_,_,_,r,d,ht,c⟩=>c.nx _ _ _ _ r d ht⟩
def kIf (c:TT3)(t u:TSK):TSK:=fun a DK τ ks=>c τ fun b=>if b=true then t a DK τ ks else u a DK τ ks
theorem XX {c:Expr}{tc:TT3} (hc:PT3 X c tc) (ha:Kh X as t) (hb:Kh X bs u):PSK X (.If c as bs pos) (kIf tc t u):=⟨AF (RM hc.out ha.out hb.out) fun D2 σ H hh=>by
 obtain⟨B,z,τ,a,ks,DK,r,d,ht,c⟩:=hh
 exact⟨B,_,τ,_,r,ht,fun b H1 e h=>by
  cases b with
  |true=>rw[if_pos rfl] at h ⊢;exact⟨B,_,τ,a,ks,DK,r.mono e,d.ext e,h,c⟩
  |false=>rw[if_neg qAe] at h ⊢;exact⟨B,_,τ,a,ks,DK,r.mono e,d.ext e,h,c⟩⟩⟩
def Yv (i:Nat)(cnt:Nat)(tb:TSK):TSK:=fun a DK τ0 ks0=>∃I:Nat→Tau→List Str→Prop,I 0 τ0 ks0 ∧
 (∀(n:Nat) τ ks,n<cnt→I n τ ks→tb a { DK with nx:=I (n+1),ct:=I (n+1),bk:=DK.nx } (τ.set i (some (.d (.int (0+n))))) ks)∧∀τ ks,I cnt τ ks→DK.nx τ ks
def Uh (i:Nat)(ta:TA3)(tb:TSK):TSK:=fun a DK τ ks=>ta τ fun ss=>match ss with
 |[.d (.int j)]=>(-(2^62)≤j∧j<2^62)∧Yv i j.toNat tb a DK τ ks
 |_=>False
theorem RQ {i:Nat}{x:Str}{px:Pos}{body:List Stmt}{tb:TSK}{ta:TA3} (h:PS X (.For (.Name x px) e body [] pos) (Kg (MD (FA X ta)) (BL i) (FSK X tb))) (hp:Bi X i:=by first|exact AZ rfl|exact A0 rfl ∅|assumption):PSK X (.For (.Name x px) e body [] pos) (Uh i ta tb):=⟨AF h fun D2 σ H hh=>by
 obtain⟨B,z,τ,a,ks,DK,r,d,ht,c⟩:=hh
 refine⟨B,_,τ,_,r,ht,fun ss vs H1 e1 i1 h1=>?_⟩
 split at h1
 ·rename_i j
  obtain⟨v,rfl,hv⟩:=Ef i1
  cases Is.int_inv hv
  obtain⟨⟨q1,q2⟩,I,i0,turn,out⟩:=h1
  refine⟨j,rfl,q1,q2,EK (lo:=0) (n:=j.toNat) (g:=BL i) (tb:=FSK X tb) (D:=D2) (fun n σ1 H1=>∃z1 τ1 ks1,Rep X B τ1 σ1 ⟨H1,z1⟩∧DAt B ⟨H1,z1⟩ a ks1∧I n τ1 ks1) ⟨_,τ,ks,r.mono e1,d.ext e1,i0⟩ ?_ ?_⟩
  ·rintro n σ1 H1 hn ⟨z1,τ1,ks1,r1,d1,i1⟩
   exact⟨B,_,_,a,ks1,_,r1.setd (.int _) hp,d1,turn n τ1 ks1 hn i1,⟨fun τ' ks' σ' p' r' d' h'=>⟨p'.z,τ',ks',r',d',h'⟩,fun τ' ks' σ' p' r' d' h'=>c.nx τ' ks' σ' p' r' d' h',fun τ' ks' σ' p' r' d' h'=>⟨p'.z,τ',ks',r',d',h'⟩,c.rt⟩⟩
  ·rintro σ1 H1 ⟨z1,τ1,ks1,r1,d1,i1⟩
   exact c.nx _ _ _ _ r1 d1 (out τ1 ks1 i1)
 ·exact h1.elim⟩
def Ug (i:Nat)(tk:TE3)(u:TSK):TS3:=fun D3 τ=>tk τ fun s=>∃y,s=.d (.str y)∧∀a,u a ⟨fun _ _=>False,D3.rt,fun _ _=>False,fun _ _=>False⟩ (τ.set i (some (.d (.ref a)))) [y]
theorem O1 {i:Nat}{x:Str}{pos' pos2:Pos}{kx vx:Expr}{tk:TE3} (hN:X.N.Nodup) (hi:X.N[i]? = some x) (hx:Loc X.env.scope x) (hk:PE3 X kx tk) (hv:PE X vx (tC (.bl true))) (h2:Kh X rest' u)
 (hs:swapsWith (.Dict [some kx] [vx] pos2) (some (.Name x pos')) pos.line X.env=pure false:=by rfl) (hf:X.fn x=true∨X.env.scope.names.lookup x=some .local:=by first|exact .inl rfl|exact .inr rfl|assumption) (hp:Bi X i:=by first|exact AZ rfl|exact A0 rfl ∅|assumption) :
 C4 X (.Assign [.Name x pos'] (.Dict [some kx] [vx] pos2) pos::rest') (Ug i tk u):=⟨Bw (BS (N4 hN hi hx (O9 hk.out hv) hs hf) h2.out) fun D2 σ H hh=>by
 obtain⟨B,z,τ,D3,r,ht,c⟩:=hh
 intro p hp0 hp1
 have e0:Ext ⟨H,z⟩ ⟨upd H p (.dK []),z⟩:=Ext.own r.ext.sub hp0 _
 refine⟨B,z,τ,_,r.mono e0,ht,fun s v q e1 i1 f1 h1=>?_⟩
 obtain⟨y,rfl,hu⟩:=h1
 cases Is.str_inv i1
 have hb:B.h p=none:=r.ext.hh.free hp0
 have d0:DAt B q p []:=DAt.ext (p:=⟨upd H p (.dK []),z⟩) ⟨Ac,hb,r.ext.sub.free hp0⟩ e1
 have r1:Rep X B τ σ q:=(r.mono e0).mono e1
 refine⟨y,rfl,d0.at_,?_⟩
 have r2:Rep X B τ σ ⟨upd q.h p (.dK (kts [y])),q.z⟩:=Rep.but (ks:=[]) (H:=q.h) (z:=q.z) r1 d0.at_ hb d0.zz
 exact⟨B,q.z,_,p,[y],_,r2.setd (.ref p) hp,⟨Ac,hb,d0.zz⟩,hu p,⟨fun _ _ _ _ _ _ h=>h.elim,fun _ _ _ _ _ _ h=>h.elim,fun _ _ _ _ _ _ h=>h.elim,c.rt⟩⟩⟩
def YI (i:Nat)(tk:TE3):TSK:=fun a DK τ ks=>τ[i]? = some (some (.d (.ref a)))∧tk τ fun s=>∃y,s=.d (.str y)∧ks.length<1000∧DK.nx τ (HN ks y)
theorem SM {i:Nat}{o kx vx:Expr}{pos':Pos}{tk:TE3} (ho:PE X o (Gw i)) (hk:PE3 X kx tk) (hv:PE X vx (tC (.bl true))) (hs:swapsWith vx (some (.Subscript o kx pos')) pos.line X.env=pure false:=by rfl) :
 PSK X (.Assign [.Subscript o kx pos'] vx pos) (YI i tk):=⟨AF (O5 ho hk.out hv hs) fun D2 σ H hh=>by
 obtain⟨B,z,τ,a,ks,DK,r,d,⟨h0,ht⟩,c⟩:=hh
 obtain⟨v,h1,h2⟩:=r.val i _ h0
 have h2:Is X.K z v (.ref a):=h2
 cases h2
 refine⟨.ref a,h1,?_⟩
 refine⟨B,z,τ,_,r,ht,fun s v q e1 i1 f1 h1=>?_⟩
 obtain⟨y,rfl,hl,hn⟩:=h1
 cases Is.str_inv i1
 have d1:=d.ext e1
 refine⟨a,y,ks,rfl,rfl,d1.at_,by rw[sizeLine_eq];omega,?_⟩
 exact c.nx τ (HN ks y) σ ⟨upd q.h a (.dK (kts (HN ks y))),q.z⟩ (Rep.but (H:=q.h) (z:=q.z) (r.mono e1) d1.at_ d1.base d1.zz) ⟨Ac,d1.base,d1.zz⟩ hn⟩
def XW (i:Nat)(u:TS3):TSK:=fun a DK τ ks=>τ[i]? = some (some (.d (.ref a)))∧u ⟨fun _=>False,DK.rt,fun _=>False,fun _=>False⟩ (τ.set i (some (.d (.dic ks))))
theorem Q7 {u:TS3}{sts:List Stmt} (i:Nat) (h:C4 X sts u) (hp:Bi X i:=by first|exact AZ rfl|exact A0 rfl ∅|assumption):Kh X sts (XW i u):=⟨Bw h.out fun D2 σ H hh=>by
 obtain⟨B,z,τ,a,ks,DK,r,d,⟨h0,ht⟩,c⟩:=hh
 obtain⟨v,h1,h2⟩:=r.val i _ h0
 have h2:Is X.K z v (.ref a):=h2
 cases h2
 have r1:=(r.frzD d).setd (i:=i) (v:=.ref a) (x:=.dic ks) (.dic Ac) hp
 rw[MT h1] at r1
 exact⟨B,_,_,_,r1,ht,⟨fun _ _ _ _ h=>h.elim,fun _ _ _ _ h=>h.elim,fun _ _ _ _ h=>h.elim,c.rt⟩⟩⟩
def Rr (te:TE3):TE3:=fun τ R=>te τ fun s=>match s with
 |.d (.dic ks)=>R (.l (ks.map D.str))
 |_=>False
theorem O8 {te:TE3}{p:Pos} (hc:X.calm=true) (he:PE3 X e te) (hg:Gl X "list") (hm:X.mg "list"=none) (hs:starEach [e] X.env=(false,eval e X.env)::starEach [] X.env:=by exact AI rfl):PE3 X (.Call (.Name "list" p) [e] [] pos) (Rr te) :=
 ⟨Al (NM (Cs (Jq hc) hg hm qB1 (Az he.out A5 hs) (he:=hs))) fun σ H Q hh=>by obtain⟨B,z,τ,R,r,ht,q⟩:=hh;exact⟨B,z,τ,_,r,ht,fun s v q1 e1 i1 f1 h1=>by
  split at h1
  ·rename_i ks
   have i1:Is X.K q1.z v (.dic ks):=i1
   cases i1 with
   |@dic a _ g =>
   refine⟨a,ks,rfl,e1.sub _ _ g,fun d hd hk1 hk=>?_⟩
   exact q (.l (ks.map D.str)) _ ⟨_,q1.z⟩ (e1.trans (Ext.own e1.sub hd _)) ⟨d,_,rfl,Ac,C9 ks⟩ (fun ys a _ h2=>by
    cases h2
    exact⟨e1.hh.free hd,hk1,e1.sub.free hd⟩) h1
  ·exact h1.elim⟩⟩
end
end L3
namespace L3
open PySem PySem.Spec PyProof.Rows L2
section
variable {P:Program}{w:World}{K:PySem.W.Frag}{mg:Str→Option Value}{base h:Heap}{c m q:Str}{C f:Addr}{st:Stmt}
theorem CF.nm (x:CF K c C):rA K c C:=by obtain⟨n0,n1,n2,n3,n4,n5,n6,n7,n8⟩:=x;exact n0
theorem CF.cls (x:CF K c C):Cls K C:=by obtain⟨n0,n1,n2,n3,n4,n5,n6,n7,n8⟩:=x;exact⟨n1,n2,n3,n4⟩
theorem CF.isC {Cy:Addr}{b:Bool} (x:CF K c C) (hn:PySem.W.specialIn K (.builtin "object.__class__") "__get__"=some (some (.builtin "getset_descriptor.__get__"))) (htk:PySem.W.takesIn K (.builtin "object.__class__")=some true) (kit:PySem.W.kitOne K (.ref C) (.ref Cy)=some b):IsC K C Cy b:=by
 have cl:=x.cls
 obtain⟨n0,n1,n2,n3,n4,n5,n6,n7,n8⟩:=x
 exact⟨cl,n7,hn,htk,n8,kit⟩
theorem CF.uniq {C':Addr} (x:CF K c C) (h:rA K c C'):C'=C:=by
 have:=h.symm.trans x.nm
 cases this
 rfl
theorem RwM.fn (r:RwM K C m q st f):∃fd,Fun K m q st f fd:=by
 obtain⟨a,l,c,k,n⟩:=r
 exact⟨_,Ja (st:=st) l c k⟩
theorem RwM.meth (r:RwM K C m q st f):Qs K C m f:=by
 obtain⟨a,l,c,k,n⟩:=r
 exact⟨a,n,k⟩
def Yq (st:Stmt)(n q:Str)(ps:List Str):Prop:=∀(kV doc pm:Value)(an:Option Addr)(cdv ct:Value)(us:List Value),us.length=ps.length→bindArgs (PySem.W.fnOf n q (Ci st) (A4 st) (Ae st) .none kV doc pm an cdv ct) ⟨us,[]⟩=pure (ps.zip us)
theorem RwM.cal {k:Nat}{ps:List Str}{sp:Sp3} (r:RwM K C m q st f) (x:CF K c C) (hb:Yq st m q ps) (ok:∀{fd:FuncData},Fun K m q st f fd→AJ P w K mg base (CXU P w) k f fd ps (An K mg sp)):I0 P w K mg base k c m ps sp:=by
 obtain⟨fd,F⟩:=r.fn
 exact⟨⟨C,f,fd,x.nm,x.cls,ok F,r.meth,F.binds hb⟩⟩
theorem RwM.mk_ (r:RwM K C "__init__" q st f)(x:CF K c C):Mk K C f:=by
 obtain⟨a,l,c,k,n⟩:=r
 obtain⟨n0,n1,n2,n3,n4,n5,n6,n7,n8⟩:=x
 exact⟨n5,a,n,n6⟩
end
end L3
namespace L3
open PySem PySem.Spec PyProof.Rows L2
theorem ON {P:Program}{w:World}{K:PySem.W.Frag}{mg:Str→Option Value}{base:Heap}{k k':Nat}{c m:Str}{ps:List Str}{sp:Sp3} (h:I0 P w K mg base k c m ps sp) (hk:k≤k'):I0 P w K mg base k' c m ps sp:=by
 obtain⟨C,f,fd,a1,a2,F,a4,a5⟩:=h.ex
 exact⟨⟨C,f,fd,a1,a2,⟨F.len,fun A outer s H args us vs Q E hr=>F.run A outer s H args us vs Q E (hr.mono hk)⟩,a4,a5⟩⟩
end L3
namespace L3
open PySem PySem.Spec PyProof.Rows L2
section
variable {X:Cx}{e a b:Expr}{te ta tb:TE3}{pos:Pos}
def RK (i:Nat)(te:TE3):TS3:=fun D3 τ=>match τ[i]? with
 |some (some (S.d (D.int n)))=>te τ fun s=>dd s fun d=>match d with
  |.int j=>D3.nx (τ.set i (some (.d (.int (n-j)))))
  |_=>False
 |_=>False
theorem QR {i:Nat}{x:Str}{px:Pos} (hN:X.N.Nodup) (hi:X.N[i]? = some x) (hx:Loc X.env.scope x) (he:PE3 X e te) (hf:X.fn x=true∨X.env.scope.names.lookup x=some .local:=by first|exact .inl rfl|exact .inr rfl|assumption) (hp:Bi X i:=by first|exact AZ rfl|exact A0 rfl ∅|assumption) :
 PS3 X (.AugAssign (.Name x px) .Sub e pos) (RK i te):=⟨AF (Om hN hi hx he.out Rt hf) fun D2 σ H hh=>by
 obtain⟨B,z,τ,D3,r,ht,c⟩:=hh
 unfold RK at ht
 split at ht
 ·rename_i n hs
  obtain⟨v,h1,h2⟩:=r.val i _ hs
  have ev:v=.int n:=Is.int_inv h2
  subst ev
  refine⟨.int n,h1,B,_,τ,_,r,ht,fun s v q1 e1 i1 f1 h3=>?_⟩
  obtain⟨d,rfl,h4⟩:=Cm h3
  split at h4
  ·rename_i j
   have ev:v=.int j:=Is.int_inv i1
   subst ev
   refine⟨n,j,rfl,rfl,?_⟩
   exact c.nx _ _ _ ((r.mono e1).setd (.int (n-j)) hp) h4
  ·exact h4.elim
 ·exact ht.elim⟩
end
end L3
namespace L3
open PySem PySem.Spec PyProof.Rows L2
def Wv:R3:=fun dx dy R=>match dx,dy with
 |.str i,.str j=>R (.bl (inS i j))
 |_,_=>False
theorem Sl {X:Cx}:Dx X (compareOp .In) Wv:=Bu LY fun x y H Q hh=>by
 obtain⟨z,dx,dy,R,hz,hx,hy,h3,q⟩:=hh
 unfold Wv at h3
 split at h3
 ·rename_i i j
  exact⟨i,j,hx.str_inv,hy.str_inv,q _ _ ⟨H,z⟩ (Ext.refl hz) (.bl _) h3⟩
 ·exact h3.elim
end L3
namespace CH
def ltr (c:Nat):Prop:=97≤c∧c≤122
instance (c:Nat):Decidable (ltr c):=inferInstanceAs (Decidable (_∧_))
def HK (l:List Nat):Prop:=1≤l.length∧l.length≤8∧∀c∈l,ltr c
instance (l:List Nat):Decidable (HK l):=inferInstanceAs (Decidable (_∧_∧_))
def WRD:List (List Nat):=[[108,101,97,115,116],[109,111,115,116],[115,117,109],[106,111,105,110],[117,110,100,111],[108,101,102,116]]
inductive Trm where
 |nm (l:List Nat)|wd (w:List Nat) (a b:Trm)
def Trm.tx:Trm→List Nat
 |.nm l=>l
 |.wd w a b=>w++40::(a.tx++44::(b.tx++[41]))
def Trm.ok:Trm→Prop
 |.nm l=>HK l
 |.wd w a b=>w∈WRD∧a.ok∧b.ok
def Trm.dp:Trm→Nat
 |.nm _=>0
 |.wd _ a b=>1+max a.dp b.dp
def Trm.ns:Trm→List Nat→Prop
 |.nm l,x=>x=l
 |.wd _ a b,x=>a.ns x∨b.ns x
theorem B2 {w:List Nat} (h:w∈WRD):∀c∈w,ltr c:=by
 revert w
 decide
theorem Iv {w:List Nat} (h:w∈WRD):w.length≤5∧3≤w.length:=by
 revert w
 decide
theorem Dh {c:Nat} (h:ltr c):c≠40∧c≠41∧c≠44:=by
 unfold ltr at h
 omega
def bal:List Nat→Int
 |[]=>0
 |c::r=>(if c=40 then 1 else 0)-(if c=41 then 1 else 0)+bal r
theorem C7 (a b:List Nat):bal (a++b)=bal a+bal b:=by
 induction a with
 |nil=>simp[bal]
 |cons c r ih=>simp only[qBG,bal,ih];omega
theorem Eb {l:List Nat} (h:∀c∈l,ltr c):bal l=0:=by
 induction l with
 |nil=>rfl
 |cons c r ih =>
  have:=Dh (h c qAt)
  rw[bal,if_neg this.1,if_neg this.2.1,ih fun d hd=>h d (qAi _ hd)]
  rfl
theorem Trm.bal {t:Trm} (h:t.ok):CH.bal t.tx=0:=by
 induction t with
 |nm l=>exact Eb h.2.2
 |wd w a b iha ihb =>
  obtain⟨hw,ha,hb⟩:=h
  rw[Trm.tx,C7,CH.bal,C7,CH.bal,C7,iha ha,ihb hb,Eb (B2 hw)]
  rfl
def mc:Int→List Nat→Option Nat
 |_,[]=>none
 |d,c::r=>if c=44∧d=0 then some 0 else (mc (d+(if c=40 then 1 else 0)-(if c=41 then 1 else 0)) r).map (· + 1)
theorem Qa {p r:List Nat}:∀{d:Int},(∀k,k<p.length→p[k]? = some 44→d+bal (p.take k)≠0)→mc d (p++r)=(mc (d+bal p) r).map (· + p.length):=by
 induction p with
 |nil =>
  intro d _
  simp[bal]
 |cons c q ih =>
  intro d h
  have h0:¬(c=44∧d=0):=fun⟨e1,e2⟩=>h 0 (by simp) (by simp[e1]) (by simp[bal,e2])
  rw[qBG,mc,if_neg h0,ih,qCL]
  ·have e:d+(if c=40 then 1 else 0)-(if c=41 then 1 else 0)+bal q=d+bal (c::q):=by rw[bal];omega
   rw[e]
   congr 1
  ·intro k hk hq
   have:=h (k+1) (by simpa using hk) (by simpa using hq)
   rw[qCe,bal] at this
   omega
theorem Trm.held {t:Trm} (h:t.ok):∀k,k≤t.tx.length→0≤CH.bal (t.tx.take k)∧(t.tx[k]? = some 44→0<CH.bal (t.tx.take k)):=by
 induction t with
 |nm l =>
  intro k hk
  have e:=Eb (l:=l.take k) fun c hc=>h.2.2 c (qAC hc)
  refine⟨by show 0≤CH.bal (l.take k);omega,fun z=>?_⟩
  have:=Dh (h.2.2 _ (qAy z))
  omega
 |wd w a b iha ihb =>
  obtain⟨hw,ha,hb⟩:=h
  intro k hk
  have bw:=fun j=>Eb (l:=w.take j) fun c hc=>B2 hw c (qAC hc)
  have bw':=Eb (B2 hw)
  have Ba:=Trm.bal ha
  have Bb:=Trm.bal hb
  rw[Trm.tx] at hk ⊢
  by_cases k1:k<w.length
  ·rw[qBy (),bw k]
   refine⟨(),fun z=>?_⟩
   rw[qAI k1] at z
   have:=Dh (B2 hw _ (qAy z))
   omega
  ·rw[qCz,qA5 (),C7,bw',qAL ()]
   obtain⟨j,rfl⟩:∃j,k=w.length+j:=⟨k-w.length,()⟩
   rw[show w.length+j-w.length=j from ()]
   cases j with
   |zero=>exact⟨by simp[CH.bal],fun z=>by simp at z⟩
   |succ j =>
    rw[qCe,CH.bal,qBY]
    by_cases k2:j<a.tx.length
    ·rw[qBy (),qAI k2]
     have:=iha ha j ()
     simp only[if_true]
     rw[if_neg ∅]
     exact⟨(),fun _=>()⟩
    ·rw[qCz,qA5 (),C7,Ba,qAL ()]
     obtain⟨i,rfl⟩:∃i,j=a.tx.length+i:=⟨j-a.tx.length,()⟩
     rw[show a.tx.length+i-a.tx.length=i from ()]
     simp only[if_true]
     rw[if_neg (show ¬(40:Nat)=41 from ∅)]
     cases i with
     |zero=>exact⟨by simp[CH.bal],fun _=>by simp[CH.bal]⟩
     |succ i =>
      rw[qCe,CH.bal,qBY,if_neg ∅,if_neg ∅]
      by_cases k3:i<b.tx.length
      ·rw[qBy (),qAI k3]
       have:=ihb hb i ()
       exact⟨(),fun _=>()⟩
      ·rw[qCz,qA5 (),C7,Bb,qAL ()]
       obtain⟨m,rfl⟩:∃m,i=b.tx.length+m:=⟨i-b.tx.length,()⟩
       rw[show b.tx.length+m-b.tx.length=m from ()]
       cases m with
       |zero=>exact⟨by simp[CH.bal],fun z=>by simp at z⟩
       |succ m=>exact⟨by simp[CH.bal],fun z=>by simp at z⟩
theorem IA {t:Trm} (h:t.ok) (r:List Nat):mc 0 (t.tx++44::r)=some t.tx.length:=by
 rw[Qa fun k hk z e=>by have:=((Trm.held h k ()).2 z);omega,Trm.bal h]
 simp[mc]
theorem Trm.pos {t:Trm} (h:t.ok):0<t.tx.length:=by
 cases t with
 |nm l=>exact h.1
 |wd w a b=>rw[Trm.tx];simp;omega
theorem RF {w:List Nat}{a b:Trm}:¬HK (Trm.wd w a b).tx:=fun h=>by
 have:=Dh (h.2.2 40 (by rw[Trm.tx];simp))
 omega
theorem F8 {w w' x y:List Nat}{c:Nat} (hw:c∉w) (hw':c∉w') (h:w++c::x=w'++c::y):w=w'∧x=y:=by
 induction w generalizing w' with
 |nil =>
  cases w' with
  |nil=>simp at h;exact⟨rfl,h⟩
  |cons d r=>simp at h;exact absurd (by rw[h.1];exact qAt) hw'
 |cons d r ih =>
  cases w' with
  |nil=>simp at h;exact absurd (by rw[←h.1];exact qAt) hw
  |cons d' r' =>
   simp at h
   obtain⟨e1,e2⟩:=ih (fun z=>hw (qAi _ z)) (fun z=>hw' (qAi _ z)) h.2
   exact⟨by rw[h.1,e1],e2⟩
theorem Tz {w:List Nat} (h:∀c∈w,ltr c):40∉w:=fun z=>(Dh (h _ z)).1 rfl
def Tm (n:Nat)(l:List Nat)(t:Trm):Prop:=t.ok∧t.dp≤n∧t.tx=l
theorem Vw {n:Nat}{l:List Nat}{t:Trm} (h:Tm n l t) (hl:HK l):t=.nm l:=by
 obtain⟨h1,h2,h3⟩:=h
 cases t with
 |nm l'=>rw[←h3];rfl
 |wd w a b=>rw[←h3] at hl;exact(RF hl).elim
theorem AB {n:Nat}{l w q:List Nat}{t:Trm} (h:Tm n l t) (hl:¬HK l) (e:l=w++40::q) (hw:40∉w) :
 w∈WRD∧l.getLast? = some 41∧n≠0∧∃k a b,mc 0 q.dropLast=some k∧Tm (n-1) (q.dropLast.take k) a∧Tm (n-1) (q.dropLast.drop (k+1)) b∧t=.wd w a b:=by
 obtain⟨h1,h2,h3⟩:=h
 cases t with
 |nm l'=>rw[←h3] at hl;exact(hl h1).elim
 |wd w' a b =>
  obtain⟨o1,o2,o3⟩:=h1
  rw[Trm.tx,e] at h3
  obtain⟨e1,e2⟩:=F8 (Tz (B2 o1)) hw h3
  have e3:q.dropLast=a.tx++44::b.tx:=by
   rw[←e2,show a.tx++44::(b.tx++[41])=(a.tx++44::b.tx)++[41] by simp,qBp]
  rw[Trm.dp] at h2
  refine⟨e1 ▸ o1,?_,(),a.tx.length,a,b,by rw[e3];exact IA o2 _,⟨o2,(),by rw[e3,List.take_left]⟩,⟨o3,(),?_⟩,by rw[e1]⟩
  ·rw[e,←e2,show w++40::(a.tx++44::(b.tx++[41]))=(w++40::(a.tx++44::b.tx))++[41] by simp,List.getLast?_concat]
  ·rw[e3,show a.tx++44::b.tx=(a.tx++[44])++b.tx by simp,List.drop_left' (by simp)]
theorem EU {n k:Nat}{l w q:List Nat}{a b:Trm} (e:l=w++40::q) (hw:w∈WRD) (hq:l.getLast? = some 41) (hn:n≠0) (hk:mc 0 q.dropLast=some k) (ha:Tm (n-1) (q.dropLast.take k) a) (hb:Tm (n-1) (q.dropLast.drop (k+1)) b) (h44:q.dropLast[k]? = some 44):Tm n l (.wd w a b):=by
 obtain⟨a1,a2,a3⟩:=ha
 obtain⟨b1,b2,b3⟩:=hb
 refine⟨⟨hw,a1,b1⟩,by rw[Trm.dp];omega,?_⟩
 have hk':k<q.dropLast.length:=by
  rcases qCR k q.dropLast.length with z|z
  ·exact z
  ·rw[qAs.mpr z] at h44;cases h44
 have q0:q≠[]:=fun z=>by rw[z] at hk';simp at hk'
 have hl:q.getLast q0=41:=by
  rw[e,List.getLast?_append,List.getLast?_cons,List.getLast?_eq_some_getLast q0] at hq
  exact qAn hq
 have e2:q=q.dropLast++[41]:=by
  have:=(List.dropLast_concat_getLast q0).symm
  rw[hl] at this
  exact this
 have e3:q.dropLast=q.dropLast.take k++44::q.dropLast.drop (k+1):=by
  have:q.dropLast[k]=44:=by rw[qAc hk'] at h44;exact qAn h44
  rw[←this,←qAS hk',qB6]
 rw[Trm.tx,a3,b3,e]
 congr 2
 rw[e2]
 rw[qBp]
 conv=>rhs;rw[e3]
 simp
theorem D0:∀{l:List Nat}{d:Int}{k:Nat},mc d l=some k→l[k]? = some 44
 |[],d,k,h=>by cases h
 |c::r,d,k,h=>by
  rw[mc] at h
  by_cases z:c=44∧d=0
  ·rw[if_pos z] at h
   cases h
   simp[z.1]
  ·rw[if_neg z] at h
   cases e:mc (d+(if c=40 then 1 else 0)-(if c=41 then 1 else 0)) r with
   |none=>rw[e] at h;cases h
   |some j =>
    rw[e] at h
    cases h
    simpa using D0 e
theorem Trm.cnt {t:Trm} (h:t.ok):t.tx.count 40=t.tx.count 44∧t.tx.count 41=t.tx.count 44:=by
 induction t with
 |nm l =>
  have z:∀c,(c=40∨c=41∨c=44)→l.count c=0:=fun c hc=>List.count_eq_zero.mpr fun m=>by have:=Dh (h.2.2 _ m);omega
  show l.count 40=l.count 44∧l.count 41=l.count 44
  rw[z 40 (by simp),z 41 (by simp),z 44 (by simp)]
  exact⟨rfl,rfl⟩
 |wd w a b iha ihb =>
  obtain⟨hw,ha,hb⟩:=h
  have z:∀c,(c=40∨c=41∨c=44)→w.count c=0:=fun c hc=>List.count_eq_zero.mpr fun m=>by have:=Dh (B2 hw _ m);omega
  have:=iha ha
  have:=ihb hb
  rw[Trm.tx]
  simp only[qA2,qBQ,List.count_nil]
  rw[z 40 (by simp),z 41 (by simp),z 44 (by simp)]
  simp
  omega
def Iq (c:Nat):Prop:=c=40∨c=41∨c=44
theorem Trm.chr {t:Trm} (h:t.ok):∀c∈t.tx,ltr c∨Iq c:=by
 induction t with
 |nm l=>exact fun c hc=>.inl (h.2.2 c hc)
 |wd w a b iha ihb =>
  obtain⟨hw,ha,hb⟩:=h
  intro c hc
  rw[Trm.tx] at hc
  unfold Iq
  simp only[qAB,qAq,qBH,or_false] at hc
  rcases hc with hc|rfl|hc|rfl|hc|rfl
  ·exact .inl (B2 hw c hc)
  ·simp
  ·exact iha ha c hc
  ·simp
  ·exact ihb hb c hc
  ·simp
end CH
namespace CH
def Bad (l:List Nat):Prop:=∀t:Trm,t.ok→t.tx≠l
theorem Px {l:List Nat}{c:Nat} (h:c∈l) (h1:¬ltr c) (h2:¬Iq c):Bad l:=fun t ht e=>by
 rcases Trm.chr ht c (by rw[e];exact h) with z|z
 ·exact h1 z
 ·exact h2 z
theorem HP {l:List Nat} (h:¬(l.count 40=l.count 44∧l.count 41=l.count 44)):Bad l:=fun t ht e=>h (by rw[←e];exact Trm.cnt ht)
theorem Kc:Bad []:=fun t ht e=>by
 have:=Trm.pos ht
 rw[e] at this
 exact absurd this ∅
theorem P4 {t:Trm}{k c:Nat} (h:t.ok) (hc:Iq c) (hk:t.tx[k]? = some c):Bad (t.tx.take k++t.tx.drop (k+1)):=by
 refine HP fun z=>?_
 obtain⟨hl,e⟩:=qAj.mp hk
 have e0:t.tx=t.tx.take k++c::t.tx.drop (k+1):=by
  have e2:t.tx.drop k=c::t.tx.drop (k+1):=by rw[←e];exact qAS hl
  rw[←e2,qB6]
 have n:=Trm.cnt h
 have c0:∀x,t.tx.count x=(t.tx.take k).count x+(t.tx.drop (k+1)).count x+(if c=x then 1 else 0):=fun x=>by
  conv=>lhs;rw[e0]
  rw[qA2,qBQ]
  by_cases hx:c=x<;>simp[hx]<;>omega
 rw[qA2,qA2,qA2] at z
 have a:=c0 40
 have b:=c0 41
 have d:=c0 44
 rcases hc with rfl|rfl|rfl<;>simp at a b d<;>omega
theorem LF {t:Trm}{k c:Nat} (h:t.ok) (hc:Iq c):Bad (t.tx.take k++c::t.tx.drop k):=by
 refine HP fun z=>?_
 have n:=Trm.cnt h
 have c0:∀x,t.tx.count x=(t.tx.take k).count x+(t.tx.drop k).count x:=fun x=>by
  conv=>lhs;rw[←qB6 k t.tx]
  rw[qA2]
 rw[qA2,qA2,qA2,qBQ,qBQ,qBQ] at z
 have a:=c0 40
 have b:=c0 41
 have d:=c0 44
 rcases hc with rfl|rfl|rfl<;>simp at z<;>omega
theorem Ej {t:Trm}{p r:List Nat} (h:t.ok) (hc:¬((p++r).count 40=(p++r).count 44∧(p++r).count 41=(p++r).count 44)):Bad (p++t.tx++r):=by
 refine HP fun z=>hc ?_
 have n:=Trm.cnt h
 simp only[qA2] at z ⊢
 omega
theorem S2 {u t:Trm}{w X:List Nat} (hu:u.ok) (ht:t.ok) (hw:40∉w) (e:u.tx=w++40::(t.tx++44::(X++[41]))):w∈WRD∧∃b:Trm,b.ok∧b.tx=X:=by
 cases u with
 |nm l =>
  have:(40:Nat)∈l:=by rw[show l=_ from e];simp
  exact absurd rfl (Dh (hu.2.2 40 this)).1
 |wd w' a b =>
  obtain⟨o1,o2,o3⟩:=hu
  rw[Trm.tx] at e
  obtain⟨e1,e2⟩:=F8 (Tz (B2 o1)) hw e
  have e3:a.tx++44::b.tx=t.tx++44::X:=by
   have:=congrArg List.dropLast e2
   rw[show a.tx++44::(b.tx++[41])=(a.tx++44::b.tx)++[41] by simp,show t.tx++44::(X++[41])=(t.tx++44::X)++[41] by simp,qBp,qBp] at this
   exact this
  have m1:=IA o2 b.tx
  rw[e3,IA ht X] at m1
  have hl:t.tx.length=a.tx.length:=qAn m1
  have:=List.append_inj e3 hl.symm
  exact⟨e1 ▸ o1,b,o3,(List.cons.inj this.2).2⟩
theorem Nn {t:Trm}{w X:List Nat} (ht:t.ok) (hw:40∉w) (n:w∉WRD):Bad (w++40::(t.tx++44::(X++[41]))):=fun u hu e=>n (S2 hu ht hw e).1
theorem Fi {t:Trm}{w X:List Nat} (ht:t.ok) (hw:40∉w) (n:Bad X):Bad (w++40::(t.tx++44::(X++[41]))):=fun u hu e=>by
 obtain⟨_,b,h1,h2⟩:=S2 hu ht hw e
 exact n b h1 h2
theorem Mc {l:List Nat} (h:40∉l) (n:¬HK l):Bad l:=fun t ht e=>by
 cases t with
 |nm l'=>exact n (by rw[←show l'=l from e];exact ht)
 |wd w a b=>exact h (by rw[←e,Trm.tx];simp)
theorem LL {w r:List Nat} (hw:40∉w):Bad (w++40::(44::r)):=fun u hu e=>by
 cases u with
 |nm l =>
  have:(40:Nat)∈l:=by rw[show l=_ from e];simp
  exact absurd rfl (Dh (hu.2.2 40 this)).1
 |wd w' a b =>
  obtain⟨o1,o2,o3⟩:=hu
  rw[Trm.tx] at e
  obtain⟨e1,e2⟩:=F8 (Tz (B2 o1)) hw e
  have hp:=Trm.pos o2
  have h0:=(Trm.held o2 0 (qAw _)).2
  match ha:a.tx,hp with
  |c::r',_ =>
   rw[ha] at e2
   have:c=44:=(List.cons.inj e2).1
   rw[ha,this] at h0
   have:=h0 rfl
   rw[List.take_zero] at this
   exact absurd this ∅
end CH
namespace CH
open PySem L2 L3 PyProof.Rows
def Trm.nl:Trm→List (List Nat)
 |.nm l=>[l]
 |.wd _ a b=>a.nl++b.nl
def Trm.lv (t:Trm):Nat:=t.nl.length
def trD:Trm→D
 |.nm l=>.obj "Term" ["text"] [.str (mkS l)]
 |.wd w a b=>.obj "WordTerm" ["text","word","one","other"] [.str (mkS (Trm.wd w a b).tx),.str (mkS w),trD a,trD b]
def FJ (c:Str):Prop:=c="Term"∨c="WordTerm"
instance (c:Str):Decidable (FJ c):=inferInstanceAs (Decidable (_∨_))
def txD:D→Option (List Nat)
 |.obj c ns xs=>if FJ c∧("shown":Str)∉ns then (match Li ns xs "text" with
  |some (.str y)=>some y.cps.toList
  |_=>none) else none
 |_=>none
theorem NW:∀t:Trm,txD (trD t)=some t.tx
 |.nm _=>if_pos (e:=none) (show FJ "Term"∧("shown":Str)∉(["text"]:List Str) by decide +kernel)
 |.wd _ _ _=>if_pos (e:=none) (show FJ "WordTerm"∧("shown":Str)∉(["text","word","one","other"]:List Str) by decide +kernel)
def mjW:D→D→D→Option D
 |.str w,a,b=>match txD a,txD b with
  |some x,some y=>if w.cps.toList.length+x.length+y.length≤100000 then some (.str (mkS (w.cps.toList++40::(x++44::(y++[41]))))) else none
  |_,_=>none
 |_,_,_=>none
theorem C5 {w:List Nat}{a b:Trm} (h:w.length+a.tx.length+b.tx.length≤100000):mjW (.str (mkS w)) (trD a) (trD b)=some (.str (mkS (Trm.wd w a b).tx)):=by
 show(match txD (trD a),txD (trD b) with
  |some x,some y=>if (mkS w).cps.toList.length+x.length+y.length≤100000 then some (D.str (mkS ((mkS w).cps.toList++40::(x++44::(y++[41]))))) else none
  |_,_=>none)=_
 rw[NW,NW]
 exact if_pos h
theorem P2 {d1 d2 d3 x:D} (h:mjW d1 d2 d3=some x):∃w p q c ns xs c' ns' xs',d1=.str (mkS w)∧d2=.obj c ns xs∧d3=.obj c' ns' xs'∧FJ c∧FJ c'∧("shown":Str)∉ns∧("shown":Str)∉ns'∧Li ns xs "text"=some (.str (mkS p))∧Li ns' xs' "text"=some (.str (mkS q)) ∧
 w.length+p.length+q.length≤100000∧x=.str (mkS (w++40::(p++44::(q++[41])))):=by
 have key:∀{d:D}{p:List Nat},txD d=some p→∃c ns xs,d=.obj c ns xs∧FJ c∧("shown":Str)∉ns∧Li ns xs "text"=some (.str (mkS p)):=by
  intro d p e
  cases d with
  |obj c ns xs =>
   have e:(if FJ c∧("shown":Str)∉ns then (match Li ns xs "text" with
    |some (.str y)=>some y.cps.toList
    |_=>none) else none)=some p:=e
   split at e
   ·rename_i hc
    split at e
    ·rename_i y hy
     cases e
     exact⟨c,ns,xs,rfl,hc.1,hc.2,by rw[hy,mkS_of]⟩
    ·cases e
   ·cases e
  |_=>cases e
 cases d1 with
 |str w =>
  have h:(match txD d2,txD d3 with
   |some x,some y=>if w.cps.toList.length+x.length+y.length≤100000 then some (D.str (mkS (w.cps.toList++40::(x++44::(y++[41]))))) else none
   |_,_=>none)=some x:=h
  split at h
  ·rename_i p q e1 e2
   split at h
   ·rename_i hl
    cases h
    obtain⟨c,ns,xs,rfl,a1,a2,a3⟩:=key e1
    obtain⟨c',ns',xs',rfl,b1,b2,b3⟩:=key e2
    exact⟨w.cps.toList,p,q,c,ns,xs,c',ns',xs',by rw[mkS_of],rfl,rfl,a1,b1,a2,b2,a3,b3,hl,rfl⟩
   ·cases h
  ·cases h
 |_=>cases h
theorem Fv {α:Type} [DecidableEq α]:∀{a b:List α},a.Nodup→(∀x∈a,x∈b)→a.length≤b.length
 |[],b,_,_=>qAw _
 |x::a,b,n,h=>by
  have hx:=h x qAt
  have n':=qBu.mp n
  have:=Fv (a:=a) (b:=b.erase x) n'.2 fun y hy=>(List.mem_erase_of_ne (fun z=>n'.1 (by rw[←z];exact hy))).mpr (h y (qAi _ hy))
  rw[List.length_erase_of_mem hx] at this
  have:0<b.length:=List.length_pos_of_mem hx
  rw[qAd]
  omega
def NmL (t:Trm)(ls:List Str):Prop:=∀x,x∈ls ↔ x∈t.nl.map mkS
theorem N0:∀{t u:Trm},t.ok→u.ok→t.tx=u.tx→t=u:=by
 intro t
 induction t with
 |nm l =>
  intro u h1 h2 e
  exact(Vw (n:=u.dp) (l:=l) ⟨h2,qAg _,e.symm⟩ h1).symm
 |wd w a b iha ihb =>
  intro u h1 h2 e
  obtain⟨_,_,_,k,a',b',hk,ha,hb,rfl⟩:=AB (n:=u.dp) (l:=(Trm.wd w a b).tx) (t:=u) ⟨h2,qAg _,e.symm⟩ RF rfl (Tz (B2 h1.1))
  have e3:(a.tx++44::(b.tx++[41])).dropLast=a.tx++44::b.tx:=by
   rw[show a.tx++44::(b.tx++[41])=(a.tx++44::b.tx)++[41] by simp,qBp]
  rw[e3] at hk ha hb
  rw[IA h1.2.1] at hk
  cases hk
  rw[iha h1.2.1 ha.1 (by rw[ha.2.2,List.take_left]),ihb h1.2.2 hb.1 (by rw[hb.2.2,show a.tx++44::b.tx=(a.tx++[44])++b.tx by simp,List.drop_left' (by simp)])]
def Cg:Sp3:=fun ss R _=>∃(c:Str)(ns:List Str)(xs:List D)(y:Str),ss=[.d (.obj c ns xs)]∧FJ c∧Li ns xs "text"=some (.str y)∧R (.d (.str y))
def K2:Sp3:=fun ss R _=>∃l:List Nat,ss=[.d (trD (.nm l))]∧R (.l [.str (mkS l)])
def Qy (d:Nat):Sp3:=fun ss R _=>∃(w:List Nat)(a b:Trm),ss=[.d (trD (.wd w a b))]∧(Trm.wd w a b).dp≤d∧(Trm.wd w a b).lv<64∧∀ls:List Str,sortedS ls=true→ls.Nodup→NmL (.wd w a b) ls→R (.l (ls.map D.str))
theorem KN {τ:Tau}{te:TE3}{R:S→Prop}{d:Nat}{t:Trm} (hte:∀k:S→Prop,k (.d (trD t))→te τ k) (hd:t.dp≤d) (hl:t.lv<64) (q:∀ls:List Str,sortedS ls=true→ls.Nodup→NmL t ls→ls.length≤t.lv→R (.l (ls.map D.str))) :
 vEi (Ib "Term" "names" K2 te) (Ib "WordTerm" "names" (Qy d) te) τ R:=by
 cases t with
 |nm l =>
  refine .inl (hte _ ⟨rfl,by decide +kernel,l,rfl,?_⟩)
  exact q [mkS l] rfl (by simp) (fun x=>by simp[Trm.nl]) (qAg _)
 |wd w a b =>
  refine .inr (hte _ ⟨rfl,by decide +kernel,w,a,b,rfl,hd,hl,fun ls h1 h2 h3=>q ls h1 h2 h3 ?_⟩)
  have:=Fv h2 fun x hx=>(h3 x).mp hx
  rw[qAf] at this
  exact this
theorem Tg {τ:Tau}{te:TE3}{R:S→Prop}{t:Trm} (hte:∀k:S→Prop,k (.d (trD t))→te τ k) (q:R (.d (.bl true))):Wz (fun c b=>FJ c∧b=true) te τ R:=by
 cases t with
 |nm l=>exact hte _ ⟨true,⟨.inl rfl,rfl⟩,q⟩
 |wd w a b=>exact hte _ ⟨true,⟨.inr rfl,rfl⟩,q⟩
theorem Gf {τ:Tau}{te:TE3}{R:S→Prop}{c:Str}{ns:List Str}{xs:List D}{y:Str} (hte:∀k:S→Prop,k (.d (.obj c ns xs))→te τ k) (hc:FJ c) (hs:("shown":Str)∉ns) (hf:Li ns xs "text"=some (.str y)) (q:R (.d (.str y))) :
 vEi (Ib "Term" "shown" Cg te) (Ib "WordTerm" "shown" Cg te) τ R:=by
 rcases hc with rfl|rfl
 ·exact .inl (hte _ ⟨rfl,hs,_,ns,xs,y,rfl,.inl rfl,hf,q⟩)
 ·exact .inr (hte _ ⟨rfl,hs,_,ns,xs,y,rfl,.inr rfl,hf,q⟩)
theorem YJ {τ:Tau}{te:TE3}{R:S→Prop}{t:Trm} (hte:∀k:S→Prop,k (.d (trD t))→te τ k) (q:R (.d (.str (mkS t.tx)))) :
 vEi (Ib "Term" "shown" Cg te) (Ib "WordTerm" "shown" Cg te) τ R:=by
 cases t with
 |nm l=>exact Gf (ns:=["text"]) hte (.inl rfl) (by decide +kernel) rfl q
 |wd w a b=>exact Gf (ns:=["text","word","one","other"]) hte (.inr rfl) (by decide +kernel) rfl q
end CH
namespace CL
open PySem L2 L3 CH
open PyProof.Rows
def isT:D→Bool
 |.str _=>true
 |_=>false
def G7:D→Bool
 |.ty _=>false
 |.ref _=>false
 |.obj _ _ _=>false
 |.dic _=>false
 |_=>true
structure Ji (x:D):Prop where
 p:G7 x=true
 t:∀l,x=.str (mkS l)→l.length≤5000∧(∀c∈l,c<128)∧Bad l
def J3 (n:Nat):Sp3:=fun ss R U=>∃l:List Nat,ss=[.d (.str (mkS l)),.d (.int n)]∧l.length≤5000∧(∀c∈l,c<128)∧(∀t,Tm n l t→R (.d (trD t)))∧((∀t,¬Tm n l t)→U "NoText")
theorem WG (l:List Nat):((mkS l).length:Int)=(l.length:Int):=by rw[mkS_len]
def U1:List Nat:=[97,98,99,100,101,102,103,104,105,106,107,108,109,110,111,112,113,114,115,116,117,118,119,120,121,122]
theorem G6:(Str.ofString "abcdefghijklmnopqrstuvwxyz").cps.toList=U1:=by decide +kernel
theorem IG (c:Nat):c∈U1 ↔ ltr c:=by
 constructor
 ·revert c
  decide
 ·intro h
  obtain⟨k,rfl⟩:∃k,c=97+k:=⟨c-97,by unfold ltr at h;omega⟩
  have hk:k<26:=by unfold ltr at h;omega
  clear h
  revert k
  decide
theorem U8 (c:Nat):inS ⟨#[c]⟩ (Str.ofString "abcdefghijklmnopqrstuvwxyz")=decide (ltr c):=by
 rw[Kv,G6]
 exact decide_eq_decide.mpr (IG c)
theorem Fc {c d:Nat}:((⟨#[c]⟩:Str)=⟨#[d]⟩) ↔ c=d:=⟨fun h=>by injection h with h;simpa using h,fun h=>by rw[h]⟩
theorem s44:(Str.ofString ",")=⟨#[44]⟩:=by decide +kernel
theorem s40:(Str.ofString "(")=⟨#[40]⟩:=by decide +kernel
theorem s41:(Str.ofString ")")=⟨#[41]⟩:=by decide +kernel
theorem Gx {l:List Nat}{n c:Nat} (h:l[n]? = some c):l.drop n=c::l.drop (n+1):=by
 obtain⟨hn,e⟩:=qAj.mp h
 rw[qAS hn,e]
theorem Gb {l:List Nat}{n c:Nat} (h:l[n]? = some c):bal (l.take (n+1))=bal (l.take n)+(if c=40 then 1 else 0)-(if c=41 then 1 else 0):=by
 rw[qBm,h,C7]
 show bal (l.take n)+bal [c]=_
 rw[bal,bal]
 omega
theorem OT {l:List Nat}{n c:Nat} (e:mc 0 l=(mc (bal (l.take n)) (l.drop n)).map (· + n)) (h:l[n]? = some c) (hc:c=44∧bal (l.take n)=0):mc 0 l=some n:=by
 rw[e,Gx h,mc,if_pos hc]
 simp
theorem KL {l:List Nat}{n c:Nat} (e:mc 0 l=(mc (bal (l.take n)) (l.drop n)).map (· + n)) (h:l[n]? = some c) (hc:¬(c=44∧bal (l.take n)=0)):mc 0 l=(mc (bal (l.take (n+1))) (l.drop (n+1))).map (· + (n+1)):=by
 rw[e,Gx h,mc,if_neg hc,←Gb h,qCL]
 congr 1
 funext x
 show x+1+n=x+(n+1)
 omega
theorem Br (l:List Nat):Txt.slice (mkS l) none (some (-1))=mkS l.dropLast:=by
 rw[Ee l none (some (-1)) 0 (l.length-1) () ?_]
 ·rw[qBW,List.dropLast_eq_take]
 ·have:=@KG 0 (l.length-1)
  unfold Builtin.Str.strSliceIndices
  simp only[show(1:Int)>0 from ∅,if_true]
  have e:max 0 (min (if (-1:Int)<0 then (-1:Int)+(l.length:Int) else (-1:Int)) (l.length:Int))=((l.length-1:Nat):Int):=by
   rw[if_pos ∅];omega
  rw[e]
  exact this
theorem Cu {w:List Nat} (h:w∈WRD):HK w:=by
 have k:∀w∈WRD,HK w:=∅
 exact k w h
theorem DZ {n:Nat}{l:List Nat}{t:Trm} (h:Tm n l t) (hl:¬HK l):40∈l:=by
 obtain⟨h1,_,h3⟩:=h
 cases t with
 |nm l'=>rw[←h3] at hl;exact(hl h1).elim
 |wd w a b=>rw[←h3,Trm.tx];simp
theorem inW (a:List Nat):decide (mkS a∈[Str.ofString "least",Str.ofString "most",Str.ofString "sum",Str.ofString "join",Str.ofString "undo",Str.ofString "left"])=decide (a∈WRD):=by
 refine decide_eq_decide.mpr ?_
 have e:[Str.ofString "least",Str.ofString "most",Str.ofString "sum",Str.ofString "join",Str.ofString "undo",Str.ofString "left"]=WRD.map mkS:=by decide +kernel
 rw[e,qBa]
 exact⟨fun⟨x,hx,ex⟩=>Fw ex ▸ hx,fun h=>⟨a,h,rfl⟩⟩
theorem Gv {i j:Int} (h:j.natAbs<1073741824) (h0:j≠0):CDv i j:=⟨h0,UQ h⟩
theorem EZ {α:Type}{xs:List α}{i:Int} (h0:0≤i) (h1:i<xs.length):∃d,atI xs i=some d∧d∈xs:=by
 obtain⟨k,rfl⟩:=qBg h0
 have hk:k<xs.length:=()
 exact⟨xs[k],Gh (qAc hk),qCy hk⟩
theorem R1 {i:Int} (h0:0≤i) (h1:i<26):∃c,atI (Str.ofString "abcdefghijklmnopqrstuvwxyz").cps.toList i=some c∧ltr c:=by
 rw[G6]
 obtain⟨d,e,m⟩:=EZ (xs:=U1) h0 (by show i<26;exact h1)
 exact⟨d,e,(IG d).mp m⟩
theorem atR {o:Option D}{d:D}{F:D→Prop} (e:o=some d) (h:F d):(match (generalizing:=false) o with|some d=>F d|none=>False):=by subst e;exact h
theorem MB {ws:List (List Nat)}{ss:List Str}{i:Int} (h:ss=ws.map mkS) (h0:0≤i) (h1:i<ws.length):∃w,atI (ss.map D.str) i=some (.str (mkS w))∧w∈ws:=by
 subst h
 obtain⟨d,e,m⟩:=EZ (xs:=(ws.map mkS).map D.str) h0 (by rw[qAf,qAf];exact h1)
 rw[qBr] at m
 obtain⟨w,hw,rfl⟩:=qBa.mp m
 exact⟨w,e,hw⟩
def W8:List (List Nat):=WRD++[[97],[122,122,122,122,122,122,122,122]]
theorem VI {w:List Nat} (h:w∈W8):HK w:=by
 have k:∀w∈W8,HK w:=∅
 exact k w h
theorem MK:(Str.ofString "(),").cps.toList=[40,41,44]:=by decide +kernel
instance (c:Nat):Decidable (Iq c):=inferInstanceAs (Decidable (_∨_∨_))
theorem XY (c:Nat):inS ⟨#[c]⟩ (Str.ofString "(),")=decide (Iq c):=by
 rw[Kv,MK]
 refine decide_eq_decide.mpr ?_
 unfold Iq
 simp
theorem Kf {lo st:Int}{n i:Nat}{x:D} (h:(Oa lo st n)[i]? = some x):i<n∧x=.int (lo+i*st):=by
 have hl:i<n:=by
  have:=(qAj.mp h).1
  rwa [BU] at this
 rw[DW hl] at h
 exact⟨hl,(qAn h).symm⟩
theorem hu1 {A:Around}{k n:Nat} (hr:Be k A) (hn:n≤199):A.units+1+n<cLine:=by have:=hr.un;omega
theorem KO {p:D×D→Bool}:∀xs:List D,(∀x∈xs,p (x,x)=true)→(xs.zip xs).all p=true
 |[],_=>rfl
 |x::xs,h=>by
  rw[qBS,qCm,h x qAt,KO xs fun y hy=>h y (qAi _ hy)]
  rfl
theorem M6 (n:Nat)(xs:List D)(h:xs.all (Bl n)=true):eqL n xs xs=true:=by
 unfold eqL
 rw[KO xs fun x hx=>Gs n x (qAp.mp h x hx)]
 simp
theorem BD (ls:List Str):(ls.map D.str).all (Bl 1)=true:=by
 rw[qCS,qAp]
 exact fun _ _=>rfl
theorem t40:(Str.ofString "(")=mkS [40]:=by decide +kernel
theorem t41:(Str.ofString ")")=mkS [41]:=by decide +kernel
theorem t44:(Str.ofString ",")=mkS [44]:=by decide +kernel
theorem Sy (w:List Nat)(a b:Trm):(Trm.wd w a b).lv=a.lv+b.lv:=by unfold Trm.lv;rw[Trm.nl,qAa]
theorem OA (w:List Nat)(a b:Trm):(Trm.wd w a b).tx.length=w.length+a.tx.length+b.tx.length+3:=by rw[Trm.tx];simp only[qAa,qAd,qAx];omega
theorem T9 (w a b:List Nat):mkS w++Str.ofString "(" ++ mkS a++Str.ofString "," ++ mkS b++Str.ofString ")"=mkS (w++40::(a++44::(b++[41]))):=by
 rw[t40,t41,t44]
 simp only[Ao]
 congr 1
 simp
theorem Ji.str {l:List Nat} (h:l.length≤5000) (a:∀c∈l,c<128) (b:Bad l):Ji (.str (mkS l)):=⟨rfl,fun l' e=>by
 have:=Fw (D.str.inj e)
 subst this
 exact⟨h,a,b⟩⟩
theorem Ji.other {x:D} (h:G7 x=true) (n:isT x=false):Ji x:=⟨h,fun l e=>by subst e;cases n⟩
def Vr:List Nat:=(Str.ofString " !\"#$&'*+-./0123456789:;<=>?@ABCDEFGHIJKLMNOPQRSTUVWXYZ[\\]^_`{|}~\n\t").cps.toList
theorem OZ:∀d∈Vr,¬ltr d∧¬Iq d∧d<128:=by decide +kernel
theorem N9 {t:Trm} (ok:t.ok):∀c∈t.tx,c<128:=fun c hc=>by
 have:=Trm.chr ok c hc
 unfold ltr Iq at this
 omega
theorem Rj {ps:List Nat}{o:Int} (h:0<ps.length):∃k,atI (ps.map fun k=>D.int (k:Nat)) (o.fmod (ps.length:Int))=some (.int (k:Nat))∧k∈ps:=by
 have h':(0:Int)<ps.length:=()
 obtain⟨d,e,m⟩:=EZ (xs:=ps.map fun k=>D.int (k:Nat)) (qAG o h') (by rw[qAf];exact qAU o h')
 obtain⟨k,hk,rfl⟩:=qBa.mp m
 exact⟨k,e,hk⟩
theorem bx3 {p r:List Nat}{t:Trm}{P S:Str} (hp:P=mkS p) (hr:S=mkS r) (lp:p.length≤50) (lr:r.length≤50) (ap:∀c∈p,c<128) (ar:∀c∈r,c<128) (ok:t.ok) (hl:t.tx.length≤1000) (b:Bad (p++t.tx++r)) :
 P.length+(mkS t.tx).length≤1000000∧(P++mkS t.tx).length+S.length≤1000000∧Ji (.str (P++mkS t.tx++S)):=by
 subst hp hr
 rw[Ao,Ao,mkS_len,mkS_len,mkS_len,mkS_len,qAa]
 refine⟨(),(),Ji.str (by rw[qAa,qAa];omega) (fun x hx=>?_) b⟩
 rcases qAB.mp hx with h|h
 ·rcases qAB.mp h with h|h
  ·exact ap x h
  ·exact N9 ok x h
 ·exact ar x h
def W7:List (List Nat):=[[115,117,109,115],[106,111,105,110,115],[108,101,102,116,115],[97],[117,110,100,111,115],[109,111,115,116,115],[108,101,97,115]]
theorem VY:∀w∈W7,40∉w∧w∉WRD∧w.length≤8∧∀c∈w,c<128:=∅
def R6:List (List Nat):=[[40,97,41],[40,41],[41],[44,97],[40],[44]]
theorem Uj:∀r∈R6,r.length≤8∧(∀c∈r,c<128)∧¬(([]++r).count 40=([]++r).count 44∧([]++r).count 41=([]++r).count 44):=∅
abbrev RS:Sp3:=ID
inductive Dm (ss:List S)(R:S→Prop)(U:Str→Prop):Prop
 |mk (x:D)(_:ss=[.d x])(_:G7 x=true)(_:(isT x=true→R (.d .non)))(_:(isT x=false→U "NoText"))
inductive DT (ss:List S)(R:S→Prop)(U:Str→Prop):Prop
 |mk (x:D)(_:ss=[.d x])(_:G7 x=true)(_:(isT x=false→U "NoText"))(_:∀l,x=.str (mkS l)→l.length≤5000∧(∀c∈l,c<128)∧(∀t,Tm 10 l t→R (.d (trD t)))∧((∀t,¬Tm 10 l t)→U "NoText"))
def Dj:Sp3:=fun ss R U=>ss.length=2∧False
abbrev DG:Sp3:=J3 0
abbrev DE:Sp3:=J3 1
abbrev Ds:Sp3:=J3 2
abbrev DF:Sp3:=J3 3
abbrev Dg:Sp3:=J3 4
abbrev DB:Sp3:=J3 5
abbrev Dw:Sp3:=J3 6
abbrev De:Sp3:=J3 7
abbrev Dr:Sp3:=J3 8
abbrev Dp:Sp3:=J3 9
abbrev EN:Sp3:=J3 10
abbrev Jx:Sp3:=J3 10
inductive CK (ss:List S)(R:S→Prop)(U:Str→Prop):Prop
 |mk (l:List Nat)(_:ss=[.d (.str (mkS l))])(_:l.length≤5000)(_:(∀c∈l,c<128))(_:(∀k:Nat,mc 0 l=some k→R (.d (.int k))))(_:(mc 0 l=none→U "NoText"))
inductive Fb (ss:List S)(R:S→Prop)(U_:Str→Prop):Prop
 |mk (l:List Nat)(_:ss=[.d (.str (mkS l))])(_:l.length≤5000)(_:(∀c∈l,c<128))(_:R (.d (.bl (decide (HK l)))))
inductive CG (ss:List S)(R:S→Prop)(U_:Str→Prop):Prop
 |mk (ns:List Int)(k:Int)(_:ss=[.r (ns.map D.int),.d (.int k)])(_:0≤k)(_:k≤1000)(_:(∀c:Int,R (.d (.int c))))
inductive Cw (ss:List S)(R:S→Prop)(U_:Str→Prop):Prop
 |mk (c:Int)(_:ss=[.d (.int c)])(_:∀l,HK l→R (.d (.str (mkS l))))
inductive CJ (ss:List S)(R:S→Prop)(U_:Str→Prop):Prop
 |mk (c:Int)(_:ss=[.d (.int c)])(_:∀w,w∈WRD→R (.d (.str (mkS w))))
inductive DA (ss:List S)(R:S→Prop)(U_:Str→Prop):Prop
 |mk (ns:List Int)(_:ss=[.r (ns.map D.int)])(_:∀(t:Trm)(ls:List Str),t.ok→t.lv≤25→t.tx.length≤1000→sortedS ls=true→ls.Nodup→NmL t ls→R (.d (.tup [.str (mkS t.tx),.lst (ls.map D.str),.int t.dp])))
inductive CZ (ss:List S)(R:S→Prop)(U_:Str→Prop):Prop
 |mk (l:List Nat)(_:ss=[.d (.str (mkS l)),.d (.str "(),")])(_:l.length≤5000)(_:(∀c∈l,c<128))(_:∀ps:List Nat,(∀k∈ps,∃c,l[k]? = some c∧Iq c)→R (.l (ps.map fun k=>D.int (k:Nat))))
inductive CC (ss:List S)(R:S→Prop)(U_:Str→Prop):Prop
 |mk (t:Trm)(c o:Int)(_:ss=[.d (.str (mkS t.tx)),.d (.int c),.d (.int o)])(_:t.ok)(_:t.tx.length≤1000)(_:∀x:D,Ji x→R (.d x))
inductive CI (ss:List S)(R:S→Prop)(U_:Str→Prop):Prop
 |mk (x:D)(_:ss=[.d x])(_:G7 x=true)(_:(∀l,x=.str (mkS l)→l.length≤5000∧(∀c∈l,c<128)∧∀t,¬Tm 10 l t))(_:R (.d (.bl true)))
inductive Dz (ss:List S)(R:S→Prop)(U_:Str→Prop):Prop
 |mk (t:Trm)(ls:List Str)(_:ss=[.d (.str (mkS t.tx)),.d (.lst (ls.map D.str))])(_:t.ok)(_:t.dp≤10)(_:t.lv≤25)(_:t.tx.length≤1000)(_:sortedS ls=true)(_:ls.Nodup)(_:NmL t ls)(_:R (.d (.bl true)))
section
variable {P:Program}{w:World}{K:PySem.W.Frag}{mg:Str→Option Value}{base:Heap}{f:Addr}{fd:FuncData}
variable {K_CurveError K_NoRatio K_NoCurve K_NoTime K_NoHouse K_NoWay K_NoText K_NoName K_NoEnd K_NoRow K_Term K_WordTerm:Addr}
theorem Ms:Av ["self"] ["self"] (Ae BP):=scN
theorem IP (fk_text:∀c C,FJ c→rA K c C→Cls K C∧AS K C "text")(F:Fun K "shown" "Term.shown" BP f fd):AJ P w K mg base CX0 1 f fd ["self"] (An K mg Cg):=by
 refine fn3 F Ms (fun ss R U h=>by obtain⟨c,ns,xs,y,rfl,_⟩:=h;rfl) (fun cdv A outer s H E ss R U hr h=>?_)
 obtain⟨c,ns,xs,y,rfl,hc,hx,q⟩:=h
 refine⟨_,(Bt (Jv fk_text (vN 0))),?_⟩
 exact⟨hc,_,hx,q⟩
theorem KQ:Av ["self"] ["self"] (Ae CN):=scN
theorem KA (fk_text:∀c C,FJ c→rA K c C→Cls K C∧AS K C "text")(F:Fun K "names" "Term.names" CN f fd):AJ P w K mg base CX0 1 f fd ["self"] (An K mg K2):=by
 refine fn3 F KQ (fun ss R U h=>by obtain⟨l,rfl,_⟩:=h;rfl) (fun cdv A outer s H E ss R U hr h=>?_)
 obtain⟨l,rfl,q⟩:=h
 refine⟨_,(Bt (F6 (a1 (Jv fk_text (vN 0))))),?_⟩
 exact⟨.inl rfl,_,rfl,by show 1≤1000;decide,q⟩
theorem Jj:Av ["self"] ["self"] (Ae AV):=scN
theorem M7 {k d:Nat} (hk:1≤k) (Bs:mg "sorted"=none) (JI:mg "set"=none) (fk_one:∀(c:Str) C,c="WordTerm"→rA K c C→Cls K C∧AS K C "one") (fk_other:∀(c:Str) C,c="WordTerm"→rA K c C→Cls K C∧AS K C "other") (O_Term_names:I0 P w K mg base 1 "Term" "names" ["self"] K2) (O_WordTerm_names:I0 P w K mg base k "WordTerm" "names" ["self"] (Qy d)) (F:Fun K "names" "WordTerm.names" AV f fd):AJ P w K mg base CX0 (k+1) f fd ["self"] (An K mg (Qy (d+1))):=by
 refine fn3 F Jj (fun ss R U h=>by obtain⟨w,a,b,rfl,_⟩:=h;rfl) (fun cdv A outer s H E ss R U hr h=>?_)
 obtain⟨w,a,b,rfl,hd,hl,q⟩:=h
 rw[Trm.dp] at hd
 have hl':a.lv+b.lv<64:=by unfold Trm.lv at hl ⊢;rw[Trm.nl,qAa] at hl;exact hl
 refine⟨_,(Bt (J8 rfl (SG (NQ (Bz hr O_Term_names (Jv fk_one (vN 0))) (Bz hr O_WordTerm_names (Jv fk_one (vN 0)))) (NQ (Bz hr O_Term_names (Jv fk_other (vN 0))) (Bz hr O_WordTerm_names (Jv fk_other (vN 0))))) rfl Bs rfl JI)),?_⟩
 refine KN (t:=a) (fun k hk=>⟨rfl,_,rfl,hk⟩) () () fun la _ _ na ln=>?_
 refine KN (t:=b) (fun k hk=>⟨rfl,_,rfl,hk⟩) () () fun lb _ _ nb lm=>?_
 refine⟨by simp only[qAf];omega,la++lb,by rw[qA9],by rw[qAa];omega,fun ls s1 s2 s3=>?_⟩
 refine q ls s1 s2 fun x=>?_
 rw[s3,qAB,na,nb,Trm.nl,qA9,qAB]
theorem K6 (F:Fun K "names" "WordTerm.names" AV f fd):AJ P w K mg base CX0 1 f fd ["self"] (An K mg (Qy 0)):=by
 refine fn3 F Jj (fun ss R U h=>by obtain⟨w,a,b,rfl,_⟩:=h;rfl) (fun cdv A outer s H E ss R U hr h=>?_)
 obtain⟨w,a,b,rfl,hd,_⟩:=h
 rw[Trm.dp] at hd
 omega
theorem Hd {fW:Addr} (r:RwM K K_WordTerm "names" "WordTerm.names" AV fW) (cf:CF K "WordTerm" K_WordTerm) (Bs:mg "sorted"=none) (JI:mg "set"=none) (fk_one:∀(c:Str) C,c="WordTerm"→rA K c C→Cls K C∧AS K C "one") (fk_other:∀(c:Str) C,c="WordTerm"→rA K c C→Cls K C∧AS K C "other") (O_Term_names:I0 P w K mg base 1 "Term" "names" ["self"] K2):∀d:Nat,I0 P w K mg base (d+2) "WordTerm" "names" ["self"] (Qy d)
 |0=>by
  have:=r.cal (P:=P) (w:=w) (mg:=mg) (base:=base) cf (by intro _ _ _ _ _ _ us hl;obtain⟨x0,rfl⟩:=HS hl;rfl) (fun F=>AJ.anyCX (K6 F))
  exact ON this ∅
 |d+1=>r.cal cf (by intro _ _ _ _ _ _ us hl;obtain⟨x0,rfl⟩:=HS hl;rfl) (fun F=>AJ.anyCX (M7 () Bs JI fk_one fk_other O_Term_names (Hd r cf Bs JI fk_one fk_other O_Term_names d) F))
theorem UM:Av ["self","text"] ["self","text"] (Ae Cc):=scN
theorem Vt:Av ["self","word","one","other"] ["self","word","one","other"] (Ae BF):=scN
theorem Sd (fk_text:∀c C,FJ c→rA K c C→Cls K C∧AS K C "text")(F:Fun K "__init__" "Term.__init__" Cc f fd):AJ P w K mg base (CXU P w) 1 f fd ["self","text"] (IS (fun C=>∃c,FJ c∧rA K c C) "text") :=
 Pe F UM (fun C ⟨c,h1,h2⟩=>fk_text c C h1 h2) rfl (.inl rfl) (.inl rfl)
theorem U2 {fT:Addr}{fdT:FuncData} (fk_text:∀c C,FJ c→rA K c C→Cls K C∧AS K C "text") (O_Term_shown:I0 P w K mg base 1 "Term" "shown" ["self"] Cg) (O_WordTerm_shown:I0 P w K mg base 1 "WordTerm" "shown" ["self"] Cg) (cf:CF K "WordTerm" K_WordTerm) (n1:AS K K_WordTerm "word") (n2:AS K K_WordTerm "one") (n3:AS K K_WordTerm "other") (m_Term:mg "Term"=some (.ref K_Term)) (cT:CFn K K_Term "__init__" fT) (FT:Fun K "__init__" "Term.__init__" Cc fT fdT) (F:Fun K "__init__" "WordTerm.__init__" BF f fd):AJ P w K mg base (CXU P w) 3 f fd ["self","word","one","other"] (Ga K K_WordTerm (mkW "text" "word" "one" "other" mjW)):=by
 refine Pb (Sd fk_text FT) (FT.binds (by intro _ _ _ _ _ _ us hl;obtain⟨x0,x1,rfl⟩:=MC hl;rfl)) cT m_Term (k:=2) ∅ F Vt ⟨_,.inr rfl,cf.nm⟩ cf.cls n1 n2 n3 (by decide +kernel) rfl (.inl rfl) (.inl rfl) (.inl rfl) (.inl rfl) (by decide +kernel) (fun _ _ _ _ _ _=>rfl) (fun _=>AI rfl) (fun _=>AI rfl) (fun _=>rfl) (fun _=>rfl) (fun cdv A outer s H E hr=>?_)
 refine⟨_,(Pg Ak (F6 (Ap (vN 1) (Ap Ak (Ap (NQ (Bz hr O_Term_shown (vN 2)) (Bz hr O_WordTerm_shown (vN 2))) (Ap Ak (a2 (NQ (Bz hr O_Term_shown (vN 3)) (Bz hr O_WordTerm_shown (vN 3))) Ak))))))),fun d1 d2 d3 x hj=>?_⟩
 obtain⟨wl,p,q,c,ns,xs,c',ns',xs',rfl,rfl,rfl,a1,b1,a2,b2,a3,b3,hl,rfl⟩:=P2 hj
 refine Gf (fun k hk=>hk) a1 a2 a3 ?_
 refine Gf (fun k hk=>hk) b1 b2 b3 ?_
 refine⟨by show 6≤1000;decide,[wl,[40],p,[44],q,[41]],rfl,rfl,(fun z=>nomatch z),?_,?_⟩
 ·simp only[qBA,List.flatten_nil,qAa,qAd,qAx]
  omega
 ·show S.d (.str (mkS _))=_
  congr 3
theorem Fu:Av ["thing"] ["thing"] (Ae CQ):=scN
variable (Aj:mg "isinstance"=none)
variable (HV:mg "str"=none)
variable (ec_NoText:ExC K "NoText" K_NoText)
variable (m_NoText:mg "NoText"=some (.ref K_NoText))
include Aj HV ec_NoText m_NoText in
theorem Ft (F:Fun K "check_text" "check_text" CQ f fd):AJ P w K mg base (CXU P w) 1 f fd ["thing"] (An K mg Dm):=by
 refine fnU F Fu (fun ss R U h=>?_) (fun cdv A outer s H E ss R U hr h xo=>?_)
 ·obtain⟨x,rfl,_⟩:=h;rfl
 obtain⟨x,rfl,px,q1,q2⟩:=h
 refine⟨_,(A6 (BV (w_not (A3 (Qd .str (vN 0) rfl Aj rfl HV qCM))) (A6 (Bo xo rfl Ak rfl ec_NoText m_NoText)) Au)),?_⟩
 cases x with
 |str y=>exact⟨trivial,q1 rfl⟩
 |int y=>exact⟨trivial,q2 rfl⟩
 |bl y=>exact⟨trivial,q2 rfl⟩
 |non=>exact⟨trivial,q2 rfl⟩
 |tup y=>exact⟨trivial,q2 rfl⟩
 |lst y=>exact⟨trivial,q2 rfl⟩
 |ty y=>cases px
 |ref y=>cases px
 |obj _ _ _=>cases px
 |dic _=>cases px
variable (BR:Cal P w K mg base (CXU P w) 1 "check_text" ["thing"] Dm)
theorem JC:Av ["text"] ["text"] (Ae Dn):=scN
variable (Mg:mg "all"=none)
variable (Cd:mg "len"=none)
variable (gc_LETTERS:GC K mg "LETTERS" (.str "abcdefghijklmnopqrstuvwxyz"))
variable (gc_LONGEST_NAME:GC K mg "LONGEST_NAME" (.int 8))
include Mg Cd gc_LETTERS gc_LONGEST_NAME in
theorem JU (F:Fun K "is_name" "is_name" Dn f fd):AJ P w K mg base CX0 1 f fd ["text"] (An K mg Fb):=by
 refine fn3 F JC (fun ss R U h=>?_) (fun cdv A outer s H E ss R U hr h=>?_)
 ·obtain⟨l,rfl,_⟩:=h;rfl
 obtain⟨l,rfl,hl,ha,q⟩:=h
 refine⟨_,(DP (BV (PW3.pt (C1 (CY Dl (CP G2 rfl Cd PySem.boot_len (a1 (vN 0))) Ag) (C6 (CY Ta (CP G2 rfl Cd PySem.boot_len (a1 (vN 0))) (Je rfl gc_LONGEST_NAME))))) (Bt N1) Au)
  (Bt (CP (V5 rfl) rfl Mg PyProof.Rows.boot_all (a1 (QK (N:=["sign"]) (idx:=[]) (BG.mk' (Ae Dn) ["text"] rfl rfl (by decide +kernel)) rfl (Ru (PE3.out (vN 0))) Qn (fun cl C s₀ H₀ fp=>O3) (fun cl C s₀ H₀ fp=>(OP Sl (vN 0) (Je rfl gc_LETTERS) rfl))))))),?_⟩
 have hL:(mkS l).length≤1000000:=by rw[mkS_len];omega
 have no:¬HK l→R (.d (.bl false)):=fun h=>by rw[decide_eq_false h] at q;exact q
 refine⟨1≤l.length∧l.length≤8,?_,fun hg=>?_⟩
 ·refine⟨hL,?_⟩
  rw[WG]
  refine A8 (fun e=>no fun z=>by have:=z.1;omega) (fun e=>?_)
  refine⟨hL,?_⟩
  rw[WG]
  exact A8 (fun e2=>no fun z=>by have:=z.2.1;omega) (fun e2=>⟨rfl,(),()⟩)
 refine⟨Ks ha,l.map (fun c=>some (.bl (decide (ltr c)))),by rw[qAf,mkS_list,qAf],fun n x hx=>?_,by rw[mkS_list,qAf];omega,?_⟩
 ·rw[mkS_list,qAl] at hx
  cases hc:l[n]? with
  |none=>rw[hc] at hx;cases hx
  |some c =>
   rw[hc] at hx
   cases hx
   show(l.map _)[n]? = some (some (D.bl (inS ⟨#[c]⟩ (Str.ofString "abcdefghijklmnopqrstuvwxyz"))))
   rw[U8,qAl,hc]
   rfl
 ·refine⟨_,l.map (fun c=>decide (ltr c)),rfl,?_,(fun z=>nomatch z),?_⟩
  ·show some _=some _
   congr 1
   rw[List.filterMap_map,qBr]
   exact congrFun (List.filterMap_eq_map (f:=D.bl ∘ fun c=>decide (ltr c))) l
  ·have e:(l.map fun c=>decide (ltr c)).all id=decide (HK l):=by
    rw[qAW,qCS,qAp,decide_eq_true_eq]
    exact⟨fun h=>⟨hg.1,hg.2,fun c hc=>of_decide_eq_true (h c hc)⟩,fun h c hc=>decide_eq_true (h.2.2 c hc)⟩
   rw[e]
   exact q
variable (Ai:Cal P w K mg base (CXU P w) 1 "is_name" ["text"] Fb)
theorem AR:Av ["text","depth","place","sign"] ["text"] (Ae B0):=scN
variable (Ce:mg "enumerate"=none)
include ec_NoText m_NoText Ce in
theorem EH (F:Fun K "middle_comma" "middle_comma" B0 f fd):AJ P w K mg base (CXU P w) 1 f fd ["text"] (An K mg CK):=by
 refine fnU F AR (fun ss R U h=>?_) (fun cdv A outer s H E ss R U hr h xo=>?_)
 ·obtain⟨l,rfl,_⟩:=h;rfl
 obtain⟨l,rfl,hl,ha,q1,q2⟩:=h
 refine⟨_,(Ad (A2 1 AR Ag)
  (Ad (P9 (J9 PassesOwn.leaving rfl (MQ rfl Ce (pv 0)) (Rz rfl (Iy (Gm (i:=2) AR.nd rfl (Or.inl rfl)) (Iy (Gm (i:=3) AR.nd rfl (Or.inl rfl)) Qc))) (C4.out (DP (BV (PW3.pt (OE (CY Dl (vN 3) Ak) (Ko (CY Dl (vN 1) Ag)))) (A6 (RE (pv 2))) Au)
  (Hw (BV (CY Dl (vN 3) Ak) (A6 (SJ (i:=1) AR.nd rfl (Or.inl rfl) Ag)) Au)
  (A6 (BV (CY Dl (vN 3) Ak) (A6 (QR (i:=1) AR.nd rfl (Or.inl rfl) Ag)) Au)))))))
  (A6 (Bo xo rfl Ak rfl ec_NoText m_NoText)))),?_⟩
 refine⟨Ks ha,fun n τ=>∃(z1 z2:Option S),τ=[some (.d (.str (mkS l))),I (bal (l.take n)),z1,z2]∧mc 0 l=(mc (bal (l.take n)) (l.drop n)).map (· + n),⟨_,_,rfl,by rw[List.take_zero,qBW];exact(Option.map_id'.symm.trans (congrArg (Option.map · _) (funext fun x=>(Nat.add_zero x).symm)))⟩,?_,?_⟩
 ·rintro n τ x hx ⟨z1,z2,rfl,hm⟩
  rw[mkS_list,qAl] at hx
  cases hc:l[n]? with
  |none=>rw[hc] at hx;cases hx
  |some c =>
   rw[hc] at hx
   cases hx
   refine⟨¬(c=44∧bal (l.take n)=0),?_,fun hP=>?_⟩
   ·show if decide ((⟨#[c]⟩:Str)=Str.ofString ",")=true then _ else _
    rw[s44]
    refine A8 (fun e=>?_) (fun e=>⟨rfl,fun z=>e (Fc.mpr z.1)⟩)
    exact A8 (fun e2=>q1 n (OT hm hc ⟨Fc.mp e,e2⟩)) (fun e2=>⟨rfl,fun z=>e2 z.2⟩)
   refine⟨fun τ=>τ=[some (.d (.str (mkS l))),I (bal (l.take n)+(if c=40 then 1 else 0)),I n,some (.d (.str ⟨#[c]⟩))],?_,?_⟩
   ·show if decide ((⟨#[c]⟩:Str)=Str.ofString "(")=true then _ else _
    rw[s40]
    refine A8 (fun e=>?_) (fun e=>?_)
    ·rw[if_pos (Fc.mp e)];rfl
    ·rw[if_neg (fun z=>e (Fc.mpr z)),Int.add_zero];rfl
   ·rintro τ rfl
    show if decide ((⟨#[c]⟩:Str)=Str.ofString ")")=true then _ else _
    rw[s41]
    refine A8 (fun e=>?_) (fun e=>?_)
    ·refine⟨I n,some (.d (.str ⟨#[c]⟩)),?_,KL hm hc hP⟩
     rw[Gb hc,if_pos (c:=c=41) (Fc.mp e)]
     rfl
    ·refine⟨I n,some (.d (.str ⟨#[c]⟩)),?_,KL hm hc hP⟩
     rw[Gb hc,if_neg (c:=c=41) (fun z=>e (Fc.mpr z)),Int.sub_zero]
 ·rintro τ ⟨z1,z2,rfl,hm⟩
  rw[mkS_list,qAf,List.drop_length] at hm
  exact q2 hm
variable (Ab:Cal P w K mg base (CXU P w) 1 "middle_comma" ["text"] CK)
theorem Aa:Av ["text","room","parts","inner","comma","one"] ["text","room"] (Ae AL):=scN
theorem FZ (F:Fun K "term_of" "term_of" AL f fd):AJ P w K mg base CX0 5 f fd ["text","room"] (An K mg Dj):=by
 exact fn3 F Aa (fun ss R U h=>h.1) (fun cdv A outer s H E ss R U hr h=>h.2.elim)
variable (N_WordTerm:OC P w K mg base 3 "WordTerm" K_WordTerm ["self","word","one","other"] (mkW "text" "word" "one" "other" mjW))
variable (gc_WORDS:GC K mg "WORDS" (.tup [(.str "least"),(.str "most"),(.str "sum"),(.str "join"),(.str "undo"),(.str "left")]))
variable (N_Term:UH P w K mg base 1 "Term" K_Term ["self","text"] (mk1 "text"))
include ec_NoText m_NoText Ai Ab N_WordTerm gc_WORDS N_Term in
theorem F4 (Ah:Cal P w K mg base (CXU P w) 5 "term_of" ["text","room"] Dj)(F:Fun K "term_of" "term_of" AL f fd):AJ P w K mg base (CXU P w) 6 f fd ["text","room"] (An K mg DG):=by
 refine fnU F Aa (fun ss R U h=>?_) (fun cdv A outer s H E ss R U hr h xo=>?_)
 ·obtain⟨l,rfl,_⟩:=h;rfl
 obtain⟨l,rfl,hl,ha,q1,q2⟩:=h
 refine⟨_,(Ad (BV (A3 (BJ xo hr Ai (a1 (vN 0)))) (Bt (Cv hr N_Term (a1 (vN 0)))) Au)
  (Ad (A2 2 Aa (CB (vN 0) Ak))
  (DP (BV (PW3.pt (C1 (DM Bk (vK 2) (Je rfl gc_WORDS) rfl) (C1 (w_not (A3 (D1 (vN 0) Ak))) (C6 (CY Dl (vN 1) Ag))))) (A6 (Bo xo rfl Ak rfl ec_NoText m_NoText)) Au)
  (Ad (A2 3 Aa (AO (vK 2) B9 (AQ (EB Ag))))
  (Ad (A2 4 Aa (BJ xo hr Ab (a1 (vN 3))))
  (Ad (A2 5 Aa (BJ xo hr Ah (a2 (AO (vN 3) B9 (AQ (vN 4))) (Aw BK (vN 1) Ag))))
  (Bt (BH hr N_WordTerm (Ap (vK 2) (a2 (vN 5) (BJ xo hr Ah (a2 (AO (vN 3) (AQ (Aw B8 (vN 4) Ag)) B9) (Aw BK (vN 1) Ag))))))))))))),?_⟩
 refine⟨l,rfl,hl,ha,?_⟩
 refine A8 (fun e=>⟨_,_,rfl,rfl,q1 (.nm l) ⟨e,qAw _,rfl⟩⟩) (fun e=>?_)
 refine⟨l,40,rfl,s40,(),fun hn=>?_,fun a b eab na=>?_⟩
 ·refine⟨False,?_,fun z=>z.elim⟩
  refine⟨_,rfl,?_⟩
  show if (!decide (mkS l∈[Str.ofString "least",Str.ofString "most",Str.ofString "sum",Str.ofString "join",Str.ofString "undo",Str.ofString "left"]))=true then _ else _
  rw[inW,←decide_not]
  exact A8 (fun c=>q2 fun t ht=>hn (DZ ht e)) (fun c=>absurd (fun z=>e (Cu z)) c)
 refine⟨a∈WRD∧l.getLast? = some 41∧0≠0,?_,fun hP=>?_⟩
 ·refine⟨_,rfl,?_⟩
  show if (!decide (mkS a∈[Str.ofString "least",Str.ofString "most",Str.ofString "sum",Str.ofString "join",Str.ofString "undo",Str.ofString "left"]))=true then _ else _
  rw[inW,←decide_not]
  refine A8 (fun c=>q2 fun t ht=>c (AB ht e eab na).1) (fun c=>?_)
  refine⟨l,41,rfl,s41,?_⟩
  show if (!decide (l.getLast? = some 41))=true then _ else _
  rw[←decide_not]
  refine A8 (fun c2=>q2 fun t ht=>c2 (AB ht e eab na).2.1) (fun c2=>?_)
  exact q2 fun t ht=>(AB ht e eab na).2.2.1 rfl
 exact absurd rfl hP.2.2
include ec_NoText m_NoText Ai Ab N_WordTerm gc_WORDS N_Term in
theorem Fq (Ah:Cal P w K mg base (CXU P w) 6 "term_of" ["text","room"] DG)(F:Fun K "term_of" "term_of" AL f fd):AJ P w K mg base (CXU P w) 7 f fd ["text","room"] (An K mg DE):=by
 refine fnU F Aa (fun ss R U h=>?_) (fun cdv A outer s H E ss R U hr h xo=>?_)
 ·obtain⟨l,rfl,_⟩:=h;rfl
 obtain⟨l,rfl,hl,ha,q1,q2⟩:=h
 refine⟨_,(Ad (BV (A3 (BJ xo hr Ai (a1 (vN 0)))) (Bt (Cv hr N_Term (a1 (vN 0)))) Au)
  (Ad (A2 2 Aa (CB (vN 0) Ak))
  (DP (BV (PW3.pt (C1 (DM Bk (vK 2) (Je rfl gc_WORDS) rfl) (C1 (w_not (A3 (D1 (vN 0) Ak))) (C6 (CY Dl (vN 1) Ag))))) (A6 (Bo xo rfl Ak rfl ec_NoText m_NoText)) Au)
  (Ad (A2 3 Aa (AO (vK 2) B9 (AQ (EB Ag))))
  (Ad (A2 4 Aa (BJ xo hr Ab (a1 (vN 3))))
  (Ad (A2 5 Aa (BJ xo hr Ah (a2 (AO (vN 3) B9 (AQ (vN 4))) (Aw BK (vN 1) Ag))))
  (Bt (BH hr N_WordTerm (Ap (vK 2) (a2 (vN 5) (BJ xo hr Ah (a2 (AO (vN 3) (AQ (Aw B8 (vN 4) Ag)) B9) (Aw BK (vN 1) Ag))))))))))))),?_⟩
 refine⟨l,rfl,hl,ha,?_⟩
 refine A8 (fun e=>⟨_,_,rfl,rfl,q1 (.nm l) ⟨e,qAw _,rfl⟩⟩) (fun e=>?_)
 refine⟨l,40,rfl,s40,(),fun hn=>?_,fun a b eab na=>?_⟩
 ·refine⟨False,?_,fun z=>z.elim⟩
  refine⟨_,rfl,?_⟩
  show if (!decide (mkS l∈[Str.ofString "least",Str.ofString "most",Str.ofString "sum",Str.ofString "join",Str.ofString "undo",Str.ofString "left"]))=true then _ else _
  rw[inW,←decide_not]
  exact A8 (fun c=>q2 fun t ht=>hn (DZ ht e)) (fun c=>absurd (fun z=>e (Cu z)) c)
 refine⟨a∈WRD∧l.getLast? = some 41∧1≠0,?_,fun hP=>?_⟩
 ·refine⟨_,rfl,?_⟩
  show if (!decide (mkS a∈[Str.ofString "least",Str.ofString "most",Str.ofString "sum",Str.ofString "join",Str.ofString "undo",Str.ofString "left"]))=true then _ else _
  rw[inW,←decide_not]
  refine A8 (fun c=>q2 fun t ht=>c (AB ht e eab na).1) (fun c=>?_)
  refine⟨l,41,rfl,s41,?_⟩
  show if (!decide (l.getLast? = some 41))=true then _ else _
  rw[←decide_not]
  refine A8 (fun c2=>q2 fun t ht=>c2 (AB ht e eab na).2.1) (fun c2=>?_)
  exact⟨rfl,Decidable.not_not.mp c,Decidable.not_not.mp c2,∅⟩
 have lb:b.dropLast.length≤5000∧∀c∈b.dropLast,c<128:=by
  have:l.length=a.length+(b.length+1):=by rw[eab,qAa,qAd]
  exact⟨by rw[qAP];omega,fun c hc=>ha c (by rw[eab];exact qAv _ (qAi _ (qAT b hc)))⟩
 refine⟨by rw[mkS_len];have:=congrArg List.length eab;rw[qAa,qAd] at this;omega,?_⟩
 have lS:(mkS b.dropLast).length≤1000000:=by rw[mkS_len];have:=lb.1;omega
 show La _ _ _ (List.set _ 3 (some (S.d (D.str (Txt.slice (mkS b) none (some (-1)))))))
 rw[Br]
 refine⟨b.dropLast,rfl,lb.1,lb.2,fun k hk=>?_,fun hno=>q2 fun t ht=>?_⟩
 rotate_left
 ·obtain⟨k,_,_,hk,_⟩:=(AB ht e eab na).2.2.2
  rw[hno] at hk
  cases hk
 refine⟨lS,?_⟩
 refine⟨b.dropLast.take k,by show [S.d (D.str (Txt.slice (mkS b.dropLast) none (some (k:Int)))),_]=_;rw[Bc];rfl,by rw[qAu];have:=lb.1;omega,fun c hc=>lb.2 c (qAC hc),fun t1 h1=>?_,fun hno=>q2 fun t ht=>?_⟩
 rotate_left
 ·obtain⟨k',a',b',hk',ha',_⟩:=(AB ht e eab na).2.2.2
  rw[hk] at hk'
  cases hk'
  exact hno a' ha'
 refine⟨lS,?_⟩
 refine⟨b.dropLast.drop (k+1),by show [S.d (D.str (Txt.slice (mkS b.dropLast) (some ((k:Int)+1)) none)),_]=_;rw[show((k:Int)+1)=((k+1:Nat):Int) from (),AK];rfl,by rw[qAz];have:=lb.1;omega,fun c hc=>lb.2 c (qAD hc),fun t2 h2=>?_,fun hno=>q2 fun t ht=>?_⟩
 rotate_left
 ·obtain⟨k',a',b',hk',_,hb',_⟩:=(AB ht e eab na).2.2.2
  rw[hk] at hk'
  cases hk'
  exact hno b' hb'
 have ht:=EU (n:=1) eab hP.1 hP.2.1 hP.2.2 hk h1 h2 (D0 hk)
 refine⟨[.str (mkS a),trD t1,trD t2],[("text",.str (mkS (Trm.wd a t1 t2).tx)),("word",.str (mkS a)),("one",trD t1),("other",trD t2)],rfl,?_,q1 (.wd a t1 t2) ht⟩
 show(mjW _ _ _).map _=_
 rw[C5]
 ·rfl
 ·have e3:=congrArg List.length ht.2.2
  rw[Trm.tx] at e3
  simp only[qAa,qAd] at e3
  omega
include ec_NoText m_NoText Ai Ab N_WordTerm gc_WORDS N_Term in
theorem FK (Ah:Cal P w K mg base (CXU P w) 7 "term_of" ["text","room"] DE)(F:Fun K "term_of" "term_of" AL f fd):AJ P w K mg base (CXU P w) 8 f fd ["text","room"] (An K mg Ds):=by
 refine fnU F Aa (fun ss R U h=>?_) (fun cdv A outer s H E ss R U hr h xo=>?_)
 ·obtain⟨l,rfl,_⟩:=h;rfl
 obtain⟨l,rfl,hl,ha,q1,q2⟩:=h
 refine⟨_,(Ad (BV (A3 (BJ xo hr Ai (a1 (vN 0)))) (Bt (Cv hr N_Term (a1 (vN 0)))) Au)
  (Ad (A2 2 Aa (CB (vN 0) Ak))
  (DP (BV (PW3.pt (C1 (DM Bk (vK 2) (Je rfl gc_WORDS) rfl) (C1 (w_not (A3 (D1 (vN 0) Ak))) (C6 (CY Dl (vN 1) Ag))))) (A6 (Bo xo rfl Ak rfl ec_NoText m_NoText)) Au)
  (Ad (A2 3 Aa (AO (vK 2) B9 (AQ (EB Ag))))
  (Ad (A2 4 Aa (BJ xo hr Ab (a1 (vN 3))))
  (Ad (A2 5 Aa (BJ xo hr Ah (a2 (AO (vN 3) B9 (AQ (vN 4))) (Aw BK (vN 1) Ag))))
  (Bt (BH hr N_WordTerm (Ap (vK 2) (a2 (vN 5) (BJ xo hr Ah (a2 (AO (vN 3) (AQ (Aw B8 (vN 4) Ag)) B9) (Aw BK (vN 1) Ag))))))))))))),?_⟩
 refine⟨l,rfl,hl,ha,?_⟩
 refine A8 (fun e=>⟨_,_,rfl,rfl,q1 (.nm l) ⟨e,qAw _,rfl⟩⟩) (fun e=>?_)
 refine⟨l,40,rfl,s40,(),fun hn=>?_,fun a b eab na=>?_⟩
 ·refine⟨False,?_,fun z=>z.elim⟩
  refine⟨_,rfl,?_⟩
  show if (!decide (mkS l∈[Str.ofString "least",Str.ofString "most",Str.ofString "sum",Str.ofString "join",Str.ofString "undo",Str.ofString "left"]))=true then _ else _
  rw[inW,←decide_not]
  exact A8 (fun c=>q2 fun t ht=>hn (DZ ht e)) (fun c=>absurd (fun z=>e (Cu z)) c)
 refine⟨a∈WRD∧l.getLast? = some 41∧2≠0,?_,fun hP=>?_⟩
 ·refine⟨_,rfl,?_⟩
  show if (!decide (mkS a∈[Str.ofString "least",Str.ofString "most",Str.ofString "sum",Str.ofString "join",Str.ofString "undo",Str.ofString "left"]))=true then _ else _
  rw[inW,←decide_not]
  refine A8 (fun c=>q2 fun t ht=>c (AB ht e eab na).1) (fun c=>?_)
  refine⟨l,41,rfl,s41,?_⟩
  show if (!decide (l.getLast? = some 41))=true then _ else _
  rw[←decide_not]
  refine A8 (fun c2=>q2 fun t ht=>c2 (AB ht e eab na).2.1) (fun c2=>?_)
  exact⟨rfl,Decidable.not_not.mp c,Decidable.not_not.mp c2,∅⟩
 have lb:b.dropLast.length≤5000∧∀c∈b.dropLast,c<128:=by
  have:l.length=a.length+(b.length+1):=by rw[eab,qAa,qAd]
  exact⟨by rw[qAP];omega,fun c hc=>ha c (by rw[eab];exact qAv _ (qAi _ (qAT b hc)))⟩
 refine⟨by rw[mkS_len];have:=congrArg List.length eab;rw[qAa,qAd] at this;omega,?_⟩
 have lS:(mkS b.dropLast).length≤1000000:=by rw[mkS_len];have:=lb.1;omega
 show La _ _ _ (List.set _ 3 (some (S.d (D.str (Txt.slice (mkS b) none (some (-1)))))))
 rw[Br]
 refine⟨b.dropLast,rfl,lb.1,lb.2,fun k hk=>?_,fun hno=>q2 fun t ht=>?_⟩
 rotate_left
 ·obtain⟨k,_,_,hk,_⟩:=(AB ht e eab na).2.2.2
  rw[hno] at hk
  cases hk
 refine⟨lS,?_⟩
 refine⟨b.dropLast.take k,by show [S.d (D.str (Txt.slice (mkS b.dropLast) none (some (k:Int)))),_]=_;rw[Bc];rfl,by rw[qAu];have:=lb.1;omega,fun c hc=>lb.2 c (qAC hc),fun t1 h1=>?_,fun hno=>q2 fun t ht=>?_⟩
 rotate_left
 ·obtain⟨k',a',b',hk',ha',_⟩:=(AB ht e eab na).2.2.2
  rw[hk] at hk'
  cases hk'
  exact hno a' ha'
 refine⟨lS,?_⟩
 refine⟨b.dropLast.drop (k+1),by show [S.d (D.str (Txt.slice (mkS b.dropLast) (some ((k:Int)+1)) none)),_]=_;rw[show((k:Int)+1)=((k+1:Nat):Int) from (),AK];rfl,by rw[qAz];have:=lb.1;omega,fun c hc=>lb.2 c (qAD hc),fun t2 h2=>?_,fun hno=>q2 fun t ht=>?_⟩
 rotate_left
 ·obtain⟨k',a',b',hk',_,hb',_⟩:=(AB ht e eab na).2.2.2
  rw[hk] at hk'
  cases hk'
  exact hno b' hb'
 have ht:=EU (n:=2) eab hP.1 hP.2.1 hP.2.2 hk h1 h2 (D0 hk)
 refine⟨[.str (mkS a),trD t1,trD t2],[("text",.str (mkS (Trm.wd a t1 t2).tx)),("word",.str (mkS a)),("one",trD t1),("other",trD t2)],rfl,?_,q1 (.wd a t1 t2) ht⟩
 show(mjW _ _ _).map _=_
 rw[C5]
 ·rfl
 ·have e3:=congrArg List.length ht.2.2
  rw[Trm.tx] at e3
  simp only[qAa,qAd] at e3
  omega
include ec_NoText m_NoText Ai Ab N_WordTerm gc_WORDS N_Term in
theorem Ge (Ah:Cal P w K mg base (CXU P w) 8 "term_of" ["text","room"] Ds)(F:Fun K "term_of" "term_of" AL f fd):AJ P w K mg base (CXU P w) 9 f fd ["text","room"] (An K mg DF):=by
 refine fnU F Aa (fun ss R U h=>?_) (fun cdv A outer s H E ss R U hr h xo=>?_)
 ·obtain⟨l,rfl,_⟩:=h;rfl
 obtain⟨l,rfl,hl,ha,q1,q2⟩:=h
 refine⟨_,(Ad (BV (A3 (BJ xo hr Ai (a1 (vN 0)))) (Bt (Cv hr N_Term (a1 (vN 0)))) Au)
  (Ad (A2 2 Aa (CB (vN 0) Ak))
  (DP (BV (PW3.pt (C1 (DM Bk (vK 2) (Je rfl gc_WORDS) rfl) (C1 (w_not (A3 (D1 (vN 0) Ak))) (C6 (CY Dl (vN 1) Ag))))) (A6 (Bo xo rfl Ak rfl ec_NoText m_NoText)) Au)
  (Ad (A2 3 Aa (AO (vK 2) B9 (AQ (EB Ag))))
  (Ad (A2 4 Aa (BJ xo hr Ab (a1 (vN 3))))
  (Ad (A2 5 Aa (BJ xo hr Ah (a2 (AO (vN 3) B9 (AQ (vN 4))) (Aw BK (vN 1) Ag))))
  (Bt (BH hr N_WordTerm (Ap (vK 2) (a2 (vN 5) (BJ xo hr Ah (a2 (AO (vN 3) (AQ (Aw B8 (vN 4) Ag)) B9) (Aw BK (vN 1) Ag))))))))))))),?_⟩
 refine⟨l,rfl,hl,ha,?_⟩
 refine A8 (fun e=>⟨_,_,rfl,rfl,q1 (.nm l) ⟨e,qAw _,rfl⟩⟩) (fun e=>?_)
 refine⟨l,40,rfl,s40,(),fun hn=>?_,fun a b eab na=>?_⟩
 ·refine⟨False,?_,fun z=>z.elim⟩
  refine⟨_,rfl,?_⟩
  show if (!decide (mkS l∈[Str.ofString "least",Str.ofString "most",Str.ofString "sum",Str.ofString "join",Str.ofString "undo",Str.ofString "left"]))=true then _ else _
  rw[inW,←decide_not]
  exact A8 (fun c=>q2 fun t ht=>hn (DZ ht e)) (fun c=>absurd (fun z=>e (Cu z)) c)
 refine⟨a∈WRD∧l.getLast? = some 41∧3≠0,?_,fun hP=>?_⟩
 ·refine⟨_,rfl,?_⟩
  show if (!decide (mkS a∈[Str.ofString "least",Str.ofString "most",Str.ofString "sum",Str.ofString "join",Str.ofString "undo",Str.ofString "left"]))=true then _ else _
  rw[inW,←decide_not]
  refine A8 (fun c=>q2 fun t ht=>c (AB ht e eab na).1) (fun c=>?_)
  refine⟨l,41,rfl,s41,?_⟩
  show if (!decide (l.getLast? = some 41))=true then _ else _
  rw[←decide_not]
  refine A8 (fun c2=>q2 fun t ht=>c2 (AB ht e eab na).2.1) (fun c2=>?_)
  exact⟨rfl,Decidable.not_not.mp c,Decidable.not_not.mp c2,∅⟩
 have lb:b.dropLast.length≤5000∧∀c∈b.dropLast,c<128:=by
  have:l.length=a.length+(b.length+1):=by rw[eab,qAa,qAd]
  exact⟨by rw[qAP];omega,fun c hc=>ha c (by rw[eab];exact qAv _ (qAi _ (qAT b hc)))⟩
 refine⟨by rw[mkS_len];have:=congrArg List.length eab;rw[qAa,qAd] at this;omega,?_⟩
 have lS:(mkS b.dropLast).length≤1000000:=by rw[mkS_len];have:=lb.1;omega
 show La _ _ _ (List.set _ 3 (some (S.d (D.str (Txt.slice (mkS b) none (some (-1)))))))
 rw[Br]
 refine⟨b.dropLast,rfl,lb.1,lb.2,fun k hk=>?_,fun hno=>q2 fun t ht=>?_⟩
 rotate_left
 ·obtain⟨k,_,_,hk,_⟩:=(AB ht e eab na).2.2.2
  rw[hno] at hk
  cases hk
 refine⟨lS,?_⟩
 refine⟨b.dropLast.take k,by show [S.d (D.str (Txt.slice (mkS b.dropLast) none (some (k:Int)))),_]=_;rw[Bc];rfl,by rw[qAu];have:=lb.1;omega,fun c hc=>lb.2 c (qAC hc),fun t1 h1=>?_,fun hno=>q2 fun t ht=>?_⟩
 rotate_left
 ·obtain⟨k',a',b',hk',ha',_⟩:=(AB ht e eab na).2.2.2
  rw[hk] at hk'
  cases hk'
  exact hno a' ha'
 refine⟨lS,?_⟩
 refine⟨b.dropLast.drop (k+1),by show [S.d (D.str (Txt.slice (mkS b.dropLast) (some ((k:Int)+1)) none)),_]=_;rw[show((k:Int)+1)=((k+1:Nat):Int) from (),AK];rfl,by rw[qAz];have:=lb.1;omega,fun c hc=>lb.2 c (qAD hc),fun t2 h2=>?_,fun hno=>q2 fun t ht=>?_⟩
 rotate_left
 ·obtain⟨k',a',b',hk',_,hb',_⟩:=(AB ht e eab na).2.2.2
  rw[hk] at hk'
  cases hk'
  exact hno b' hb'
 have ht:=EU (n:=3) eab hP.1 hP.2.1 hP.2.2 hk h1 h2 (D0 hk)
 refine⟨[.str (mkS a),trD t1,trD t2],[("text",.str (mkS (Trm.wd a t1 t2).tx)),("word",.str (mkS a)),("one",trD t1),("other",trD t2)],rfl,?_,q1 (.wd a t1 t2) ht⟩
 show(mjW _ _ _).map _=_
 rw[C5]
 ·rfl
 ·have e3:=congrArg List.length ht.2.2
  rw[Trm.tx] at e3
  simp only[qAa,qAd] at e3
  omega
include ec_NoText m_NoText Ai Ab N_WordTerm gc_WORDS N_Term in
theorem Fo (Ah:Cal P w K mg base (CXU P w) 9 "term_of" ["text","room"] DF)(F:Fun K "term_of" "term_of" AL f fd):AJ P w K mg base (CXU P w) 10 f fd ["text","room"] (An K mg Dg):=by
 refine fnU F Aa (fun ss R U h=>?_) (fun cdv A outer s H E ss R U hr h xo=>?_)
 ·obtain⟨l,rfl,_⟩:=h;rfl
 obtain⟨l,rfl,hl,ha,q1,q2⟩:=h
 refine⟨_,(Ad (BV (A3 (BJ xo hr Ai (a1 (vN 0)))) (Bt (Cv hr N_Term (a1 (vN 0)))) Au)
  (Ad (A2 2 Aa (CB (vN 0) Ak))
  (DP (BV (PW3.pt (C1 (DM Bk (vK 2) (Je rfl gc_WORDS) rfl) (C1 (w_not (A3 (D1 (vN 0) Ak))) (C6 (CY Dl (vN 1) Ag))))) (A6 (Bo xo rfl Ak rfl ec_NoText m_NoText)) Au)
  (Ad (A2 3 Aa (AO (vK 2) B9 (AQ (EB Ag))))
  (Ad (A2 4 Aa (BJ xo hr Ab (a1 (vN 3))))
  (Ad (A2 5 Aa (BJ xo hr Ah (a2 (AO (vN 3) B9 (AQ (vN 4))) (Aw BK (vN 1) Ag))))
  (Bt (BH hr N_WordTerm (Ap (vK 2) (a2 (vN 5) (BJ xo hr Ah (a2 (AO (vN 3) (AQ (Aw B8 (vN 4) Ag)) B9) (Aw BK (vN 1) Ag))))))))))))),?_⟩
 refine⟨l,rfl,hl,ha,?_⟩
 refine A8 (fun e=>⟨_,_,rfl,rfl,q1 (.nm l) ⟨e,qAw _,rfl⟩⟩) (fun e=>?_)
 refine⟨l,40,rfl,s40,(),fun hn=>?_,fun a b eab na=>?_⟩
 ·refine⟨False,?_,fun z=>z.elim⟩
  refine⟨_,rfl,?_⟩
  show if (!decide (mkS l∈[Str.ofString "least",Str.ofString "most",Str.ofString "sum",Str.ofString "join",Str.ofString "undo",Str.ofString "left"]))=true then _ else _
  rw[inW,←decide_not]
  exact A8 (fun c=>q2 fun t ht=>hn (DZ ht e)) (fun c=>absurd (fun z=>e (Cu z)) c)
 refine⟨a∈WRD∧l.getLast? = some 41∧4≠0,?_,fun hP=>?_⟩
 ·refine⟨_,rfl,?_⟩
  show if (!decide (mkS a∈[Str.ofString "least",Str.ofString "most",Str.ofString "sum",Str.ofString "join",Str.ofString "undo",Str.ofString "left"]))=true then _ else _
  rw[inW,←decide_not]
  refine A8 (fun c=>q2 fun t ht=>c (AB ht e eab na).1) (fun c=>?_)
  refine⟨l,41,rfl,s41,?_⟩
  show if (!decide (l.getLast? = some 41))=true then _ else _
  rw[←decide_not]
  refine A8 (fun c2=>q2 fun t ht=>c2 (AB ht e eab na).2.1) (fun c2=>?_)
  exact⟨rfl,Decidable.not_not.mp c,Decidable.not_not.mp c2,∅⟩
 have lb:b.dropLast.length≤5000∧∀c∈b.dropLast,c<128:=by
  have:l.length=a.length+(b.length+1):=by rw[eab,qAa,qAd]
  exact⟨by rw[qAP];omega,fun c hc=>ha c (by rw[eab];exact qAv _ (qAi _ (qAT b hc)))⟩
 refine⟨by rw[mkS_len];have:=congrArg List.length eab;rw[qAa,qAd] at this;omega,?_⟩
 have lS:(mkS b.dropLast).length≤1000000:=by rw[mkS_len];have:=lb.1;omega
 show La _ _ _ (List.set _ 3 (some (S.d (D.str (Txt.slice (mkS b) none (some (-1)))))))
 rw[Br]
 refine⟨b.dropLast,rfl,lb.1,lb.2,fun k hk=>?_,fun hno=>q2 fun t ht=>?_⟩
 rotate_left
 ·obtain⟨k,_,_,hk,_⟩:=(AB ht e eab na).2.2.2
  rw[hno] at hk
  cases hk
 refine⟨lS,?_⟩
 refine⟨b.dropLast.take k,by show [S.d (D.str (Txt.slice (mkS b.dropLast) none (some (k:Int)))),_]=_;rw[Bc];rfl,by rw[qAu];have:=lb.1;omega,fun c hc=>lb.2 c (qAC hc),fun t1 h1=>?_,fun hno=>q2 fun t ht=>?_⟩
 rotate_left
 ·obtain⟨k',a',b',hk',ha',_⟩:=(AB ht e eab na).2.2.2
  rw[hk] at hk'
  cases hk'
  exact hno a' ha'
 refine⟨lS,?_⟩
 refine⟨b.dropLast.drop (k+1),by show [S.d (D.str (Txt.slice (mkS b.dropLast) (some ((k:Int)+1)) none)),_]=_;rw[show((k:Int)+1)=((k+1:Nat):Int) from (),AK];rfl,by rw[qAz];have:=lb.1;omega,fun c hc=>lb.2 c (qAD hc),fun t2 h2=>?_,fun hno=>q2 fun t ht=>?_⟩
 rotate_left
 ·obtain⟨k',a',b',hk',_,hb',_⟩:=(AB ht e eab na).2.2.2
  rw[hk] at hk'
  cases hk'
  exact hno b' hb'
 have ht:=EU (n:=4) eab hP.1 hP.2.1 hP.2.2 hk h1 h2 (D0 hk)
 refine⟨[.str (mkS a),trD t1,trD t2],[("text",.str (mkS (Trm.wd a t1 t2).tx)),("word",.str (mkS a)),("one",trD t1),("other",trD t2)],rfl,?_,q1 (.wd a t1 t2) ht⟩
 show(mjW _ _ _).map _=_
 rw[C5]
 ·rfl
 ·have e3:=congrArg List.length ht.2.2
  rw[Trm.tx] at e3
  simp only[qAa,qAd] at e3
  omega
include ec_NoText m_NoText Ai Ab N_WordTerm gc_WORDS N_Term in
theorem Gu (Ah:Cal P w K mg base (CXU P w) 10 "term_of" ["text","room"] Dg)(F:Fun K "term_of" "term_of" AL f fd):AJ P w K mg base (CXU P w) 11 f fd ["text","room"] (An K mg DB):=by
 refine fnU F Aa (fun ss R U h=>?_) (fun cdv A outer s H E ss R U hr h xo=>?_)
 ·obtain⟨l,rfl,_⟩:=h;rfl
 obtain⟨l,rfl,hl,ha,q1,q2⟩:=h
 refine⟨_,(Ad (BV (A3 (BJ xo hr Ai (a1 (vN 0)))) (Bt (Cv hr N_Term (a1 (vN 0)))) Au)
  (Ad (A2 2 Aa (CB (vN 0) Ak))
  (DP (BV (PW3.pt (C1 (DM Bk (vK 2) (Je rfl gc_WORDS) rfl) (C1 (w_not (A3 (D1 (vN 0) Ak))) (C6 (CY Dl (vN 1) Ag))))) (A6 (Bo xo rfl Ak rfl ec_NoText m_NoText)) Au)
  (Ad (A2 3 Aa (AO (vK 2) B9 (AQ (EB Ag))))
  (Ad (A2 4 Aa (BJ xo hr Ab (a1 (vN 3))))
  (Ad (A2 5 Aa (BJ xo hr Ah (a2 (AO (vN 3) B9 (AQ (vN 4))) (Aw BK (vN 1) Ag))))
  (Bt (BH hr N_WordTerm (Ap (vK 2) (a2 (vN 5) (BJ xo hr Ah (a2 (AO (vN 3) (AQ (Aw B8 (vN 4) Ag)) B9) (Aw BK (vN 1) Ag))))))))))))),?_⟩
 refine⟨l,rfl,hl,ha,?_⟩
 refine A8 (fun e=>⟨_,_,rfl,rfl,q1 (.nm l) ⟨e,qAw _,rfl⟩⟩) (fun e=>?_)
 refine⟨l,40,rfl,s40,(),fun hn=>?_,fun a b eab na=>?_⟩
 ·refine⟨False,?_,fun z=>z.elim⟩
  refine⟨_,rfl,?_⟩
  show if (!decide (mkS l∈[Str.ofString "least",Str.ofString "most",Str.ofString "sum",Str.ofString "join",Str.ofString "undo",Str.ofString "left"]))=true then _ else _
  rw[inW,←decide_not]
  exact A8 (fun c=>q2 fun t ht=>hn (DZ ht e)) (fun c=>absurd (fun z=>e (Cu z)) c)
 refine⟨a∈WRD∧l.getLast? = some 41∧5≠0,?_,fun hP=>?_⟩
 ·refine⟨_,rfl,?_⟩
  show if (!decide (mkS a∈[Str.ofString "least",Str.ofString "most",Str.ofString "sum",Str.ofString "join",Str.ofString "undo",Str.ofString "left"]))=true then _ else _
  rw[inW,←decide_not]
  refine A8 (fun c=>q2 fun t ht=>c (AB ht e eab na).1) (fun c=>?_)
  refine⟨l,41,rfl,s41,?_⟩
  show if (!decide (l.getLast? = some 41))=true then _ else _
  rw[←decide_not]
  refine A8 (fun c2=>q2 fun t ht=>c2 (AB ht e eab na).2.1) (fun c2=>?_)
  exact⟨rfl,Decidable.not_not.mp c,Decidable.not_not.mp c2,∅⟩
 have lb:b.dropLast.length≤5000∧∀c∈b.dropLast,c<128:=by
  have:l.length=a.length+(b.length+1):=by rw[eab,qAa,qAd]
  exact⟨by rw[qAP];omega,fun c hc=>ha c (by rw[eab];exact qAv _ (qAi _ (qAT b hc)))⟩
 refine⟨by rw[mkS_len];have:=congrArg List.length eab;rw[qAa,qAd] at this;omega,?_⟩
 have lS:(mkS b.dropLast).length≤1000000:=by rw[mkS_len];have:=lb.1;omega
 show La _ _ _ (List.set _ 3 (some (S.d (D.str (Txt.slice (mkS b) none (some (-1)))))))
 rw[Br]
 refine⟨b.dropLast,rfl,lb.1,lb.2,fun k hk=>?_,fun hno=>q2 fun t ht=>?_⟩
 rotate_left
 ·obtain⟨k,_,_,hk,_⟩:=(AB ht e eab na).2.2.2
  rw[hno] at hk
  cases hk
 refine⟨lS,?_⟩
 refine⟨b.dropLast.take k,by show [S.d (D.str (Txt.slice (mkS b.dropLast) none (some (k:Int)))),_]=_;rw[Bc];rfl,by rw[qAu];have:=lb.1;omega,fun c hc=>lb.2 c (qAC hc),fun t1 h1=>?_,fun hno=>q2 fun t ht=>?_⟩
 rotate_left
 ·obtain⟨k',a',b',hk',ha',_⟩:=(AB ht e eab na).2.2.2
  rw[hk] at hk'
  cases hk'
  exact hno a' ha'
 refine⟨lS,?_⟩
 refine⟨b.dropLast.drop (k+1),by show [S.d (D.str (Txt.slice (mkS b.dropLast) (some ((k:Int)+1)) none)),_]=_;rw[show((k:Int)+1)=((k+1:Nat):Int) from (),AK];rfl,by rw[qAz];have:=lb.1;omega,fun c hc=>lb.2 c (qAD hc),fun t2 h2=>?_,fun hno=>q2 fun t ht=>?_⟩
 rotate_left
 ·obtain⟨k',a',b',hk',_,hb',_⟩:=(AB ht e eab na).2.2.2
  rw[hk] at hk'
  cases hk'
  exact hno b' hb'
 have ht:=EU (n:=5) eab hP.1 hP.2.1 hP.2.2 hk h1 h2 (D0 hk)
 refine⟨[.str (mkS a),trD t1,trD t2],[("text",.str (mkS (Trm.wd a t1 t2).tx)),("word",.str (mkS a)),("one",trD t1),("other",trD t2)],rfl,?_,q1 (.wd a t1 t2) ht⟩
 show(mjW _ _ _).map _=_
 rw[C5]
 ·rfl
 ·have e3:=congrArg List.length ht.2.2
  rw[Trm.tx] at e3
  simp only[qAa,qAd] at e3
  omega
include ec_NoText m_NoText Ai Ab N_WordTerm gc_WORDS N_Term in
theorem F0 (Ah:Cal P w K mg base (CXU P w) 11 "term_of" ["text","room"] DB)(F:Fun K "term_of" "term_of" AL f fd):AJ P w K mg base (CXU P w) 12 f fd ["text","room"] (An K mg Dw):=by
 refine fnU F Aa (fun ss R U h=>?_) (fun cdv A outer s H E ss R U hr h xo=>?_)
 ·obtain⟨l,rfl,_⟩:=h;rfl
 obtain⟨l,rfl,hl,ha,q1,q2⟩:=h
 refine⟨_,(Ad (BV (A3 (BJ xo hr Ai (a1 (vN 0)))) (Bt (Cv hr N_Term (a1 (vN 0)))) Au)
  (Ad (A2 2 Aa (CB (vN 0) Ak))
  (DP (BV (PW3.pt (C1 (DM Bk (vK 2) (Je rfl gc_WORDS) rfl) (C1 (w_not (A3 (D1 (vN 0) Ak))) (C6 (CY Dl (vN 1) Ag))))) (A6 (Bo xo rfl Ak rfl ec_NoText m_NoText)) Au)
  (Ad (A2 3 Aa (AO (vK 2) B9 (AQ (EB Ag))))
  (Ad (A2 4 Aa (BJ xo hr Ab (a1 (vN 3))))
  (Ad (A2 5 Aa (BJ xo hr Ah (a2 (AO (vN 3) B9 (AQ (vN 4))) (Aw BK (vN 1) Ag))))
  (Bt (BH hr N_WordTerm (Ap (vK 2) (a2 (vN 5) (BJ xo hr Ah (a2 (AO (vN 3) (AQ (Aw B8 (vN 4) Ag)) B9) (Aw BK (vN 1) Ag))))))))))))),?_⟩
 refine⟨l,rfl,hl,ha,?_⟩
 refine A8 (fun e=>⟨_,_,rfl,rfl,q1 (.nm l) ⟨e,qAw _,rfl⟩⟩) (fun e=>?_)
 refine⟨l,40,rfl,s40,(),fun hn=>?_,fun a b eab na=>?_⟩
 ·refine⟨False,?_,fun z=>z.elim⟩
  refine⟨_,rfl,?_⟩
  show if (!decide (mkS l∈[Str.ofString "least",Str.ofString "most",Str.ofString "sum",Str.ofString "join",Str.ofString "undo",Str.ofString "left"]))=true then _ else _
  rw[inW,←decide_not]
  exact A8 (fun c=>q2 fun t ht=>hn (DZ ht e)) (fun c=>absurd (fun z=>e (Cu z)) c)
 refine⟨a∈WRD∧l.getLast? = some 41∧6≠0,?_,fun hP=>?_⟩
 ·refine⟨_,rfl,?_⟩
  show if (!decide (mkS a∈[Str.ofString "least",Str.ofString "most",Str.ofString "sum",Str.ofString "join",Str.ofString "undo",Str.ofString "left"]))=true then _ else _
  rw[inW,←decide_not]
  refine A8 (fun c=>q2 fun t ht=>c (AB ht e eab na).1) (fun c=>?_)
  refine⟨l,41,rfl,s41,?_⟩
  show if (!decide (l.getLast? = some 41))=true then _ else _
  rw[←decide_not]
  refine A8 (fun c2=>q2 fun t ht=>c2 (AB ht e eab na).2.1) (fun c2=>?_)
  exact⟨rfl,Decidable.not_not.mp c,Decidable.not_not.mp c2,∅⟩
 have lb:b.dropLast.length≤5000∧∀c∈b.dropLast,c<128:=by
  have:l.length=a.length+(b.length+1):=by rw[eab,qAa,qAd]
  exact⟨by rw[qAP];omega,fun c hc=>ha c (by rw[eab];exact qAv _ (qAi _ (qAT b hc)))⟩
 refine⟨by rw[mkS_len];have:=congrArg List.length eab;rw[qAa,qAd] at this;omega,?_⟩
 have lS:(mkS b.dropLast).length≤1000000:=by rw[mkS_len];have:=lb.1;omega
 show La _ _ _ (List.set _ 3 (some (S.d (D.str (Txt.slice (mkS b) none (some (-1)))))))
 rw[Br]
 refine⟨b.dropLast,rfl,lb.1,lb.2,fun k hk=>?_,fun hno=>q2 fun t ht=>?_⟩
 rotate_left
 ·obtain⟨k,_,_,hk,_⟩:=(AB ht e eab na).2.2.2
  rw[hno] at hk
  cases hk
 refine⟨lS,?_⟩
 refine⟨b.dropLast.take k,by show [S.d (D.str (Txt.slice (mkS b.dropLast) none (some (k:Int)))),_]=_;rw[Bc];rfl,by rw[qAu];have:=lb.1;omega,fun c hc=>lb.2 c (qAC hc),fun t1 h1=>?_,fun hno=>q2 fun t ht=>?_⟩
 rotate_left
 ·obtain⟨k',a',b',hk',ha',_⟩:=(AB ht e eab na).2.2.2
  rw[hk] at hk'
  cases hk'
  exact hno a' ha'
 refine⟨lS,?_⟩
 refine⟨b.dropLast.drop (k+1),by show [S.d (D.str (Txt.slice (mkS b.dropLast) (some ((k:Int)+1)) none)),_]=_;rw[show((k:Int)+1)=((k+1:Nat):Int) from (),AK];rfl,by rw[qAz];have:=lb.1;omega,fun c hc=>lb.2 c (qAD hc),fun t2 h2=>?_,fun hno=>q2 fun t ht=>?_⟩
 rotate_left
 ·obtain⟨k',a',b',hk',_,hb',_⟩:=(AB ht e eab na).2.2.2
  rw[hk] at hk'
  cases hk'
  exact hno b' hb'
 have ht:=EU (n:=6) eab hP.1 hP.2.1 hP.2.2 hk h1 h2 (D0 hk)
 refine⟨[.str (mkS a),trD t1,trD t2],[("text",.str (mkS (Trm.wd a t1 t2).tx)),("word",.str (mkS a)),("one",trD t1),("other",trD t2)],rfl,?_,q1 (.wd a t1 t2) ht⟩
 show(mjW _ _ _).map _=_
 rw[C5]
 ·rfl
 ·have e3:=congrArg List.length ht.2.2
  rw[Trm.tx] at e3
  simp only[qAa,qAd] at e3
  omega
include ec_NoText m_NoText Ai Ab N_WordTerm gc_WORDS N_Term in
theorem Gn (Ah:Cal P w K mg base (CXU P w) 12 "term_of" ["text","room"] Dw)(F:Fun K "term_of" "term_of" AL f fd):AJ P w K mg base (CXU P w) 13 f fd ["text","room"] (An K mg De):=by
 refine fnU F Aa (fun ss R U h=>?_) (fun cdv A outer s H E ss R U hr h xo=>?_)
 ·obtain⟨l,rfl,_⟩:=h;rfl
 obtain⟨l,rfl,hl,ha,q1,q2⟩:=h
 refine⟨_,(Ad (BV (A3 (BJ xo hr Ai (a1 (vN 0)))) (Bt (Cv hr N_Term (a1 (vN 0)))) Au)
  (Ad (A2 2 Aa (CB (vN 0) Ak))
  (DP (BV (PW3.pt (C1 (DM Bk (vK 2) (Je rfl gc_WORDS) rfl) (C1 (w_not (A3 (D1 (vN 0) Ak))) (C6 (CY Dl (vN 1) Ag))))) (A6 (Bo xo rfl Ak rfl ec_NoText m_NoText)) Au)
  (Ad (A2 3 Aa (AO (vK 2) B9 (AQ (EB Ag))))
  (Ad (A2 4 Aa (BJ xo hr Ab (a1 (vN 3))))
  (Ad (A2 5 Aa (BJ xo hr Ah (a2 (AO (vN 3) B9 (AQ (vN 4))) (Aw BK (vN 1) Ag))))
  (Bt (BH hr N_WordTerm (Ap (vK 2) (a2 (vN 5) (BJ xo hr Ah (a2 (AO (vN 3) (AQ (Aw B8 (vN 4) Ag)) B9) (Aw BK (vN 1) Ag))))))))))))),?_⟩
 refine⟨l,rfl,hl,ha,?_⟩
 refine A8 (fun e=>⟨_,_,rfl,rfl,q1 (.nm l) ⟨e,qAw _,rfl⟩⟩) (fun e=>?_)
 refine⟨l,40,rfl,s40,(),fun hn=>?_,fun a b eab na=>?_⟩
 ·refine⟨False,?_,fun z=>z.elim⟩
  refine⟨_,rfl,?_⟩
  show if (!decide (mkS l∈[Str.ofString "least",Str.ofString "most",Str.ofString "sum",Str.ofString "join",Str.ofString "undo",Str.ofString "left"]))=true then _ else _
  rw[inW,←decide_not]
  exact A8 (fun c=>q2 fun t ht=>hn (DZ ht e)) (fun c=>absurd (fun z=>e (Cu z)) c)
 refine⟨a∈WRD∧l.getLast? = some 41∧7≠0,?_,fun hP=>?_⟩
 ·refine⟨_,rfl,?_⟩
  show if (!decide (mkS a∈[Str.ofString "least",Str.ofString "most",Str.ofString "sum",Str.ofString "join",Str.ofString "undo",Str.ofString "left"]))=true then _ else _
  rw[inW,←decide_not]
  refine A8 (fun c=>q2 fun t ht=>c (AB ht e eab na).1) (fun c=>?_)
  refine⟨l,41,rfl,s41,?_⟩
  show if (!decide (l.getLast? = some 41))=true then _ else _
  rw[←decide_not]
  refine A8 (fun c2=>q2 fun t ht=>c2 (AB ht e eab na).2.1) (fun c2=>?_)
  exact⟨rfl,Decidable.not_not.mp c,Decidable.not_not.mp c2,∅⟩
 have lb:b.dropLast.length≤5000∧∀c∈b.dropLast,c<128:=by
  have:l.length=a.length+(b.length+1):=by rw[eab,qAa,qAd]
  exact⟨by rw[qAP];omega,fun c hc=>ha c (by rw[eab];exact qAv _ (qAi _ (qAT b hc)))⟩
 refine⟨by rw[mkS_len];have:=congrArg List.length eab;rw[qAa,qAd] at this;omega,?_⟩
 have lS:(mkS b.dropLast).length≤1000000:=by rw[mkS_len];have:=lb.1;omega
 show La _ _ _ (List.set _ 3 (some (S.d (D.str (Txt.slice (mkS b) none (some (-1)))))))
 rw[Br]
 refine⟨b.dropLast,rfl,lb.1,lb.2,fun k hk=>?_,fun hno=>q2 fun t ht=>?_⟩
 rotate_left
 ·obtain⟨k,_,_,hk,_⟩:=(AB ht e eab na).2.2.2
  rw[hno] at hk
  cases hk
 refine⟨lS,?_⟩
 refine⟨b.dropLast.take k,by show [S.d (D.str (Txt.slice (mkS b.dropLast) none (some (k:Int)))),_]=_;rw[Bc];rfl,by rw[qAu];have:=lb.1;omega,fun c hc=>lb.2 c (qAC hc),fun t1 h1=>?_,fun hno=>q2 fun t ht=>?_⟩
 rotate_left
 ·obtain⟨k',a',b',hk',ha',_⟩:=(AB ht e eab na).2.2.2
  rw[hk] at hk'
  cases hk'
  exact hno a' ha'
 refine⟨lS,?_⟩
 refine⟨b.dropLast.drop (k+1),by show [S.d (D.str (Txt.slice (mkS b.dropLast) (some ((k:Int)+1)) none)),_]=_;rw[show((k:Int)+1)=((k+1:Nat):Int) from (),AK];rfl,by rw[qAz];have:=lb.1;omega,fun c hc=>lb.2 c (qAD hc),fun t2 h2=>?_,fun hno=>q2 fun t ht=>?_⟩
 rotate_left
 ·obtain⟨k',a',b',hk',_,hb',_⟩:=(AB ht e eab na).2.2.2
  rw[hk] at hk'
  cases hk'
  exact hno b' hb'
 have ht:=EU (n:=7) eab hP.1 hP.2.1 hP.2.2 hk h1 h2 (D0 hk)
 refine⟨[.str (mkS a),trD t1,trD t2],[("text",.str (mkS (Trm.wd a t1 t2).tx)),("word",.str (mkS a)),("one",trD t1),("other",trD t2)],rfl,?_,q1 (.wd a t1 t2) ht⟩
 show(mjW _ _ _).map _=_
 rw[C5]
 ·rfl
 ·have e3:=congrArg List.length ht.2.2
  rw[Trm.tx] at e3
  simp only[qAa,qAd] at e3
  omega
include ec_NoText m_NoText Ai Ab N_WordTerm gc_WORDS N_Term in
theorem F7 (Ah:Cal P w K mg base (CXU P w) 13 "term_of" ["text","room"] De)(F:Fun K "term_of" "term_of" AL f fd):AJ P w K mg base (CXU P w) 14 f fd ["text","room"] (An K mg Dr):=by
 refine fnU F Aa (fun ss R U h=>?_) (fun cdv A outer s H E ss R U hr h xo=>?_)
 ·obtain⟨l,rfl,_⟩:=h;rfl
 obtain⟨l,rfl,hl,ha,q1,q2⟩:=h
 refine⟨_,(Ad (BV (A3 (BJ xo hr Ai (a1 (vN 0)))) (Bt (Cv hr N_Term (a1 (vN 0)))) Au)
  (Ad (A2 2 Aa (CB (vN 0) Ak))
  (DP (BV (PW3.pt (C1 (DM Bk (vK 2) (Je rfl gc_WORDS) rfl) (C1 (w_not (A3 (D1 (vN 0) Ak))) (C6 (CY Dl (vN 1) Ag))))) (A6 (Bo xo rfl Ak rfl ec_NoText m_NoText)) Au)
  (Ad (A2 3 Aa (AO (vK 2) B9 (AQ (EB Ag))))
  (Ad (A2 4 Aa (BJ xo hr Ab (a1 (vN 3))))
  (Ad (A2 5 Aa (BJ xo hr Ah (a2 (AO (vN 3) B9 (AQ (vN 4))) (Aw BK (vN 1) Ag))))
  (Bt (BH hr N_WordTerm (Ap (vK 2) (a2 (vN 5) (BJ xo hr Ah (a2 (AO (vN 3) (AQ (Aw B8 (vN 4) Ag)) B9) (Aw BK (vN 1) Ag))))))))))))),?_⟩
 refine⟨l,rfl,hl,ha,?_⟩
 refine A8 (fun e=>⟨_,_,rfl,rfl,q1 (.nm l) ⟨e,qAw _,rfl⟩⟩) (fun e=>?_)
 refine⟨l,40,rfl,s40,(),fun hn=>?_,fun a b eab na=>?_⟩
 ·refine⟨False,?_,fun z=>z.elim⟩
  refine⟨_,rfl,?_⟩
  show if (!decide (mkS l∈[Str.ofString "least",Str.ofString "most",Str.ofString "sum",Str.ofString "join",Str.ofString "undo",Str.ofString "left"]))=true then _ else _
  rw[inW,←decide_not]
  exact A8 (fun c=>q2 fun t ht=>hn (DZ ht e)) (fun c=>absurd (fun z=>e (Cu z)) c)
 refine⟨a∈WRD∧l.getLast? = some 41∧8≠0,?_,fun hP=>?_⟩
 ·refine⟨_,rfl,?_⟩
  show if (!decide (mkS a∈[Str.ofString "least",Str.ofString "most",Str.ofString "sum",Str.ofString "join",Str.ofString "undo",Str.ofString "left"]))=true then _ else _
  rw[inW,←decide_not]
  refine A8 (fun c=>q2 fun t ht=>c (AB ht e eab na).1) (fun c=>?_)
  refine⟨l,41,rfl,s41,?_⟩
  show if (!decide (l.getLast? = some 41))=true then _ else _
  rw[←decide_not]
  refine A8 (fun c2=>q2 fun t ht=>c2 (AB ht e eab na).2.1) (fun c2=>?_)
  exact⟨rfl,Decidable.not_not.mp c,Decidable.not_not.mp c2,∅⟩
 have lb:b.dropLast.length≤5000∧∀c∈b.dropLast,c<128:=by
  have:l.length=a.length+(b.length+1):=by rw[eab,qAa,qAd]
  exact⟨by rw[qAP];omega,fun c hc=>ha c (by rw[eab];exact qAv _ (qAi _ (qAT b hc)))⟩
 refine⟨by rw[mkS_len];have:=congrArg List.length eab;rw[qAa,qAd] at this;omega,?_⟩
 have lS:(mkS b.dropLast).length≤1000000:=by rw[mkS_len];have:=lb.1;omega
 show La _ _ _ (List.set _ 3 (some (S.d (D.str (Txt.slice (mkS b) none (some (-1)))))))
 rw[Br]
 refine⟨b.dropLast,rfl,lb.1,lb.2,fun k hk=>?_,fun hno=>q2 fun t ht=>?_⟩
 rotate_left
 ·obtain⟨k,_,_,hk,_⟩:=(AB ht e eab na).2.2.2
  rw[hno] at hk
  cases hk
 refine⟨lS,?_⟩
 refine⟨b.dropLast.take k,by show [S.d (D.str (Txt.slice (mkS b.dropLast) none (some (k:Int)))),_]=_;rw[Bc];rfl,by rw[qAu];have:=lb.1;omega,fun c hc=>lb.2 c (qAC hc),fun t1 h1=>?_,fun hno=>q2 fun t ht=>?_⟩
 rotate_left
 ·obtain⟨k',a',b',hk',ha',_⟩:=(AB ht e eab na).2.2.2
  rw[hk] at hk'
  cases hk'
  exact hno a' ha'
 refine⟨lS,?_⟩
 refine⟨b.dropLast.drop (k+1),by show [S.d (D.str (Txt.slice (mkS b.dropLast) (some ((k:Int)+1)) none)),_]=_;rw[show((k:Int)+1)=((k+1:Nat):Int) from (),AK];rfl,by rw[qAz];have:=lb.1;omega,fun c hc=>lb.2 c (qAD hc),fun t2 h2=>?_,fun hno=>q2 fun t ht=>?_⟩
 rotate_left
 ·obtain⟨k',a',b',hk',_,hb',_⟩:=(AB ht e eab na).2.2.2
  rw[hk] at hk'
  cases hk'
  exact hno b' hb'
 have ht:=EU (n:=8) eab hP.1 hP.2.1 hP.2.2 hk h1 h2 (D0 hk)
 refine⟨[.str (mkS a),trD t1,trD t2],[("text",.str (mkS (Trm.wd a t1 t2).tx)),("word",.str (mkS a)),("one",trD t1),("other",trD t2)],rfl,?_,q1 (.wd a t1 t2) ht⟩
 show(mjW _ _ _).map _=_
 rw[C5]
 ·rfl
 ·have e3:=congrArg List.length ht.2.2
  rw[Trm.tx] at e3
  simp only[qAa,qAd] at e3
  omega
include ec_NoText m_NoText Ai Ab N_WordTerm gc_WORDS N_Term in
theorem FH (Ah:Cal P w K mg base (CXU P w) 14 "term_of" ["text","room"] Dr)(F:Fun K "term_of" "term_of" AL f fd):AJ P w K mg base (CXU P w) 15 f fd ["text","room"] (An K mg Dp):=by
 refine fnU F Aa (fun ss R U h=>?_) (fun cdv A outer s H E ss R U hr h xo=>?_)
 ·obtain⟨l,rfl,_⟩:=h;rfl
 obtain⟨l,rfl,hl,ha,q1,q2⟩:=h
 refine⟨_,(Ad (BV (A3 (BJ xo hr Ai (a1 (vN 0)))) (Bt (Cv hr N_Term (a1 (vN 0)))) Au)
  (Ad (A2 2 Aa (CB (vN 0) Ak))
  (DP (BV (PW3.pt (C1 (DM Bk (vK 2) (Je rfl gc_WORDS) rfl) (C1 (w_not (A3 (D1 (vN 0) Ak))) (C6 (CY Dl (vN 1) Ag))))) (A6 (Bo xo rfl Ak rfl ec_NoText m_NoText)) Au)
  (Ad (A2 3 Aa (AO (vK 2) B9 (AQ (EB Ag))))
  (Ad (A2 4 Aa (BJ xo hr Ab (a1 (vN 3))))
  (Ad (A2 5 Aa (BJ xo hr Ah (a2 (AO (vN 3) B9 (AQ (vN 4))) (Aw BK (vN 1) Ag))))
  (Bt (BH hr N_WordTerm (Ap (vK 2) (a2 (vN 5) (BJ xo hr Ah (a2 (AO (vN 3) (AQ (Aw B8 (vN 4) Ag)) B9) (Aw BK (vN 1) Ag))))))))))))),?_⟩
 refine⟨l,rfl,hl,ha,?_⟩
 refine A8 (fun e=>⟨_,_,rfl,rfl,q1 (.nm l) ⟨e,qAw _,rfl⟩⟩) (fun e=>?_)
 refine⟨l,40,rfl,s40,(),fun hn=>?_,fun a b eab na=>?_⟩
 ·refine⟨False,?_,fun z=>z.elim⟩
  refine⟨_,rfl,?_⟩
  show if (!decide (mkS l∈[Str.ofString "least",Str.ofString "most",Str.ofString "sum",Str.ofString "join",Str.ofString "undo",Str.ofString "left"]))=true then _ else _
  rw[inW,←decide_not]
  exact A8 (fun c=>q2 fun t ht=>hn (DZ ht e)) (fun c=>absurd (fun z=>e (Cu z)) c)
 refine⟨a∈WRD∧l.getLast? = some 41∧9≠0,?_,fun hP=>?_⟩
 ·refine⟨_,rfl,?_⟩
  show if (!decide (mkS a∈[Str.ofString "least",Str.ofString "most",Str.ofString "sum",Str.ofString "join",Str.ofString "undo",Str.ofString "left"]))=true then _ else _
  rw[inW,←decide_not]
  refine A8 (fun c=>q2 fun t ht=>c (AB ht e eab na).1) (fun c=>?_)
  refine⟨l,41,rfl,s41,?_⟩
  show if (!decide (l.getLast? = some 41))=true then _ else _
  rw[←decide_not]
  refine A8 (fun c2=>q2 fun t ht=>c2 (AB ht e eab na).2.1) (fun c2=>?_)
  exact⟨rfl,Decidable.not_not.mp c,Decidable.not_not.mp c2,∅⟩
 have lb:b.dropLast.length≤5000∧∀c∈b.dropLast,c<128:=by
  have:l.length=a.length+(b.length+1):=by rw[eab,qAa,qAd]
  exact⟨by rw[qAP];omega,fun c hc=>ha c (by rw[eab];exact qAv _ (qAi _ (qAT b hc)))⟩
 refine⟨by rw[mkS_len];have:=congrArg List.length eab;rw[qAa,qAd] at this;omega,?_⟩
 have lS:(mkS b.dropLast).length≤1000000:=by rw[mkS_len];have:=lb.1;omega
 show La _ _ _ (List.set _ 3 (some (S.d (D.str (Txt.slice (mkS b) none (some (-1)))))))
 rw[Br]
 refine⟨b.dropLast,rfl,lb.1,lb.2,fun k hk=>?_,fun hno=>q2 fun t ht=>?_⟩
 rotate_left
 ·obtain⟨k,_,_,hk,_⟩:=(AB ht e eab na).2.2.2
  rw[hno] at hk
  cases hk
 refine⟨lS,?_⟩
 refine⟨b.dropLast.take k,by show [S.d (D.str (Txt.slice (mkS b.dropLast) none (some (k:Int)))),_]=_;rw[Bc];rfl,by rw[qAu];have:=lb.1;omega,fun c hc=>lb.2 c (qAC hc),fun t1 h1=>?_,fun hno=>q2 fun t ht=>?_⟩
 rotate_left
 ·obtain⟨k',a',b',hk',ha',_⟩:=(AB ht e eab na).2.2.2
  rw[hk] at hk'
  cases hk'
  exact hno a' ha'
 refine⟨lS,?_⟩
 refine⟨b.dropLast.drop (k+1),by show [S.d (D.str (Txt.slice (mkS b.dropLast) (some ((k:Int)+1)) none)),_]=_;rw[show((k:Int)+1)=((k+1:Nat):Int) from (),AK];rfl,by rw[qAz];have:=lb.1;omega,fun c hc=>lb.2 c (qAD hc),fun t2 h2=>?_,fun hno=>q2 fun t ht=>?_⟩
 rotate_left
 ·obtain⟨k',a',b',hk',_,hb',_⟩:=(AB ht e eab na).2.2.2
  rw[hk] at hk'
  cases hk'
  exact hno b' hb'
 have ht:=EU (n:=9) eab hP.1 hP.2.1 hP.2.2 hk h1 h2 (D0 hk)
 refine⟨[.str (mkS a),trD t1,trD t2],[("text",.str (mkS (Trm.wd a t1 t2).tx)),("word",.str (mkS a)),("one",trD t1),("other",trD t2)],rfl,?_,q1 (.wd a t1 t2) ht⟩
 show(mjW _ _ _).map _=_
 rw[C5]
 ·rfl
 ·have e3:=congrArg List.length ht.2.2
  rw[Trm.tx] at e3
  simp only[qAa,qAd] at e3
  omega
include ec_NoText m_NoText Ai Ab N_WordTerm gc_WORDS N_Term in
theorem EX (Ah:Cal P w K mg base (CXU P w) 15 "term_of" ["text","room"] Dp)(F:Fun K "term_of" "term_of" AL f fd):AJ P w K mg base (CXU P w) 16 f fd ["text","room"] (An K mg EN):=by
 refine fnU F Aa (fun ss R U h=>?_) (fun cdv A outer s H E ss R U hr h xo=>?_)
 ·obtain⟨l,rfl,_⟩:=h;rfl
 obtain⟨l,rfl,hl,ha,q1,q2⟩:=h
 refine⟨_,(Ad (BV (A3 (BJ xo hr Ai (a1 (vN 0)))) (Bt (Cv hr N_Term (a1 (vN 0)))) Au)
  (Ad (A2 2 Aa (CB (vN 0) Ak))
  (DP (BV (PW3.pt (C1 (DM Bk (vK 2) (Je rfl gc_WORDS) rfl) (C1 (w_not (A3 (D1 (vN 0) Ak))) (C6 (CY Dl (vN 1) Ag))))) (A6 (Bo xo rfl Ak rfl ec_NoText m_NoText)) Au)
  (Ad (A2 3 Aa (AO (vK 2) B9 (AQ (EB Ag))))
  (Ad (A2 4 Aa (BJ xo hr Ab (a1 (vN 3))))
  (Ad (A2 5 Aa (BJ xo hr Ah (a2 (AO (vN 3) B9 (AQ (vN 4))) (Aw BK (vN 1) Ag))))
  (Bt (BH hr N_WordTerm (Ap (vK 2) (a2 (vN 5) (BJ xo hr Ah (a2 (AO (vN 3) (AQ (Aw B8 (vN 4) Ag)) B9) (Aw BK (vN 1) Ag))))))))))))),?_⟩
 refine⟨l,rfl,hl,ha,?_⟩
 refine A8 (fun e=>⟨_,_,rfl,rfl,q1 (.nm l) ⟨e,qAw _,rfl⟩⟩) (fun e=>?_)
 refine⟨l,40,rfl,s40,(),fun hn=>?_,fun a b eab na=>?_⟩
 ·refine⟨False,?_,fun z=>z.elim⟩
  refine⟨_,rfl,?_⟩
  show if (!decide (mkS l∈[Str.ofString "least",Str.ofString "most",Str.ofString "sum",Str.ofString "join",Str.ofString "undo",Str.ofString "left"]))=true then _ else _
  rw[inW,←decide_not]
  exact A8 (fun c=>q2 fun t ht=>hn (DZ ht e)) (fun c=>absurd (fun z=>e (Cu z)) c)
 refine⟨a∈WRD∧l.getLast? = some 41∧10≠0,?_,fun hP=>?_⟩
 ·refine⟨_,rfl,?_⟩
  show if (!decide (mkS a∈[Str.ofString "least",Str.ofString "most",Str.ofString "sum",Str.ofString "join",Str.ofString "undo",Str.ofString "left"]))=true then _ else _
  rw[inW,←decide_not]
  refine A8 (fun c=>q2 fun t ht=>c (AB ht e eab na).1) (fun c=>?_)
  refine⟨l,41,rfl,s41,?_⟩
  show if (!decide (l.getLast? = some 41))=true then _ else _
  rw[←decide_not]
  refine A8 (fun c2=>q2 fun t ht=>c2 (AB ht e eab na).2.1) (fun c2=>?_)
  exact⟨rfl,Decidable.not_not.mp c,Decidable.not_not.mp c2,∅⟩
 have lb:b.dropLast.length≤5000∧∀c∈b.dropLast,c<128:=by
  have:l.length=a.length+(b.length+1):=by rw[eab,qAa,qAd]
  exact⟨by rw[qAP];omega,fun c hc=>ha c (by rw[eab];exact qAv _ (qAi _ (qAT b hc)))⟩
 refine⟨by rw[mkS_len];have:=congrArg List.length eab;rw[qAa,qAd] at this;omega,?_⟩
 have lS:(mkS b.dropLast).length≤1000000:=by rw[mkS_len];have:=lb.1;omega
 show La _ _ _ (List.set _ 3 (some (S.d (D.str (Txt.slice (mkS b) none (some (-1)))))))
 rw[Br]
 refine⟨b.dropLast,rfl,lb.1,lb.2,fun k hk=>?_,fun hno=>q2 fun t ht=>?_⟩
 rotate_left
 ·obtain⟨k,_,_,hk,_⟩:=(AB ht e eab na).2.2.2
  rw[hno] at hk
  cases hk
 refine⟨lS,?_⟩
 refine⟨b.dropLast.take k,by show [S.d (D.str (Txt.slice (mkS b.dropLast) none (some (k:Int)))),_]=_;rw[Bc];rfl,by rw[qAu];have:=lb.1;omega,fun c hc=>lb.2 c (qAC hc),fun t1 h1=>?_,fun hno=>q2 fun t ht=>?_⟩
 rotate_left
 ·obtain⟨k',a',b',hk',ha',_⟩:=(AB ht e eab na).2.2.2
  rw[hk] at hk'
  cases hk'
  exact hno a' ha'
 refine⟨lS,?_⟩
 refine⟨b.dropLast.drop (k+1),by show [S.d (D.str (Txt.slice (mkS b.dropLast) (some ((k:Int)+1)) none)),_]=_;rw[show((k:Int)+1)=((k+1:Nat):Int) from (),AK];rfl,by rw[qAz];have:=lb.1;omega,fun c hc=>lb.2 c (qAD hc),fun t2 h2=>?_,fun hno=>q2 fun t ht=>?_⟩
 rotate_left
 ·obtain⟨k',a',b',hk',_,hb',_⟩:=(AB ht e eab na).2.2.2
  rw[hk] at hk'
  cases hk'
  exact hno b' hb'
 have ht:=EU (n:=10) eab hP.1 hP.2.1 hP.2.2 hk h1 h2 (D0 hk)
 refine⟨[.str (mkS a),trD t1,trD t2],[("text",.str (mkS (Trm.wd a t1 t2).tx)),("word",.str (mkS a)),("one",trD t1),("other",trD t2)],rfl,?_,q1 (.wd a t1 t2) ht⟩
 show(mjW _ _ _).map _=_
 rw[C5]
 ·rfl
 ·have e3:=congrArg List.length ht.2.2
  rw[Trm.tx] at e3
  simp only[qAa,qAd] at e3
  omega
variable (Ah:Cal P w K mg base (CXU P w) 16 "term_of" ["text","room"] Jx)
theorem HF:Av ["text"] ["text"] (Ae C8):=scN
variable (gc_DEEPEST:GC K mg "DEEPEST" (.int 10))
include BR Ah gc_DEEPEST in
theorem G9 (F:Fun K "read_term" "read_term" C8 f fd):AJ P w K mg base (CXU P w) 17 f fd ["text"] (An K mg DT):=by
 refine fnU F HF (fun ss R U h=>?_) (fun cdv A outer s H E ss R U hr h xo=>?_)
 ·obtain⟨x,rfl,_⟩:=h;rfl
 obtain⟨x,rfl,px,q0,q1⟩:=h
 refine⟨_,(Ad (S4 (BJ xo hr BR (a1 (vN 0))))
  (Bt (BJ xo hr Ah (a2 (vN 0) (Je rfl gc_DEEPEST))))),?_⟩
 cases hx:isT x with
 |false=>exact⟨x,rfl,px,fun z=>absurd (hx.symm.trans z) qAe,fun _=>q0 hx⟩
 |true =>
  cases x with
  |str y =>
   obtain⟨l,rfl⟩:∃l,y=mkS l:=⟨_,(mkS_of y).symm⟩
   obtain⟨hl,ha,q1,q2⟩:=q1 l rfl
   refine⟨_,rfl,rfl,fun _=>?_,fun z=>by cases z⟩
   exact⟨l,rfl,hl,ha,q1,q2⟩
  |_=>cases hx
variable (Bf:Cal P w K mg base (CXU P w) 17 "read_term" ["text"] DT)
theorem EM:Av ["_law_script","_law_k"] ["_law_script","_law_k"] (Ae B3):=scN
include Cd in
theorem Eg (F:Fun K "_law_cell_at" "_law_cell_at" B3 f fd):AJ P w K mg base CX0 1 f fd ["_law_script","_law_k"] (An K mg CG):=by
 refine fn3 F EM (fun ss R U h=>?_) (fun cdv A outer s H E ss R U hr h=>?_)
 ·obtain⟨ns,k,rfl,_⟩:=h;rfl
 obtain⟨ns,k,rfl,k0,k1,q⟩:=h
 refine⟨_,(Ad (BV (CY Ye (vN 1) (Lq Cd (vN 0))) (Bt (Ma (vN 0) (vN 1))) Au)
  (Bt (Aw B8 (Aw Np Ag (vN 1)) Ag))),?_⟩
 refine A8 (fun c=>?_) (fun c=>?_)
 ·rw[qAf] at c
  refine atR (M4 k0 c) ?_
  exact q _
 ·exact⟨MS (m:=10) (n:=20) ∅ () ∅,q _⟩
variable (As:Cal P w K mg base (CXU P w) 1 "_law_cell_at" ["_law_script","_law_k"] CG)
theorem AD:Av ["_law_cell","_law_letters","_law_words","_law_name","_law_many","_law_k","_law_at"] ["_law_cell"] (Ae B4):=scN
variable (B1:mg "range"=none)
include B1 in
theorem D6 (F:Fun K "_law_name_by" "_law_name_by" B4 f fd):AJ P w K mg base CX0 1 f fd ["_law_cell"] (An K mg Cw):=by
 refine fn3 F AD (fun ss R U h=>?_) (fun cdv A outer s H E ss R U hr h=>?_)
 ·obtain⟨c,rfl,_⟩:=h;rfl
 obtain⟨c,rfl,q⟩:=h
 refine⟨_,(Ad (A2 1 AD Ak)
  (Ad (A2 2 AD (F6 (Ap Ak (Ap Ak (Ap Ak (Ap Ak (Ap Ak (Ap Ak (a2 Ak Ak)))))))))
  (Ad (BV (CY Dl (Aw BM (vN 0) Ag) Ag) (Bt (Ma (vN 2) (Aw BM (Aw Bn (vN 0) Ag) Ag))) Au)
  (Ad (A2 3 AD Ak)
  (Ad (A2 4 AD (Aw B8 Ag (Aw BM (Aw Bn (vN 0) Ag) Ag)))
  (Ad (Ri (J9 PassesOwn.never rfl (D9 rfl B1 (PA3.out (a1 (vN 4)))) (Gm (i:=5) AD.nd rfl (Or.inl rfl)) (C4.out (A6 (A2 3 AD (Aw Ay (vN 3) (LP (vN 1) (Aw BM (Aw B8 (Aw Bn (vN 0) Ag) (Aw Np (Aw Np (vN 5) (vN 5)) (Aw BM (Aw Bn (vN 0) Ag) Ag))) Ag) (fun _ _=>rfl))))))))
  (Ad (A2 6 AD (Aw BM (Aw Bn (vN 0) Ag) (vN 4)))
  (Bt (Aw Ay (Aw Ay (AO (vN 3) B9 (AQ (vN 6))) (LP (vN 1) (Aw BM (Aw Bn (vN 0) Ag) Ag) (fun _ _=>rfl))) (AO (vN 3) (AQ (Aw B8 (vN 6) Ag)) B9)))))))))),?_⟩
 refine⟨by show 8≤1000;decide,?_⟩
 refine⟨∅,?_⟩
 have g0:=qAG (c.fdiv 7) (show(0:Int)<8 from ∅)
 have g1:=qAU (c.fdiv 7) (show(0:Int)<8 from ∅)
 refine A8 (fun _=>?_) (fun _=>?_)
 ·refine⟨(Gv ∅ ∅),∅,?_⟩
  obtain⟨w,e,hw⟩:=MB (ws:=W8) (ss:=[("least":Str),("most":Str),("sum":Str),("join":Str),("undo":Str),("left":Str),("a":Str),("zzzzzzzz":Str)]) (by decide +kernel) g0 g1
  exact atR e (q w (VI hw))
 refine⟨(Gv ∅ ∅),∅,?_⟩
 have m1:1≤(1+(c.fdiv 7).fmod 8)∧(1+(c.fdiv 7).fmod 8)≤8:=()
 refine⟨⟨(),()⟩,fun n τ=>∃(l:List Nat)(z:Option S),τ=[I c,some (.d (.str "abcdefghijklmnopqrstuvwxyz")),some (.l [.str "least",.str "most",.str "sum",.str "join",.str "undo",.str "left",.str "a",.str "zzzzzzzz"]),some (.d (.str (mkS l))),I (1+(c.fdiv 7).fmod 8),z,none]∧l.length=n∧∀c∈l,ltr c,⟨[],_,rfl,rfl,fun _ h=>(nomatch h)⟩,?_,?_⟩
 ·rintro n τ hn ⟨l,z,rfl,hl,ha⟩
  have n8:n≤7:=()
  have k4:(0+(n:Int)*1).natAbs<2^4:=()
  have k8:((0+(n:Int)*1)*(0+(n:Int)*1)).natAbs<2^9:=by
   rw[qCI]
   exact qCj (Nat.mul_le_mul (qBi k4) (qBi k4)) ∅
  have f0:=qAG (c.fdiv 3) (show(0:Int)<5 from ∅)
  have f1:=qAU (c.fdiv 3) (show(0:Int)<5 from ∅)
  refine⟨(Gv ∅ ∅),MS k4 k4 ∅,(Gv ∅ ∅),∅,MS (n:=4) k8 () ∅,∅,?_⟩
  refine⟨by decide +kernel,?_⟩
  obtain⟨d,e,hd⟩:=R1 (i:=(c.fdiv 56+(0+(n:Int)*1)*(0+(n:Int)*1)*(c.fdiv 3).fmod 5).fmod 26) (qAG _ ∅) (qAU _ ∅)
  refine⟨d,e,?_⟩
  refine⟨?_,l++[d],some (S.d (D.int (0+(n:Int)*1))),?_,by rw[qAa,hl];rfl,fun x hx=>?_⟩
  ·show(mkS l).length+1≤1000000
   rw[mkS_len]
   omega
  ·show [I c,_,_,some (S.d (D.str (mkS l++mkS [d]))),_,_,_]=_
   rw[Ao]
  ·rcases qAB.mp hx with h|h
   ·exact ha x h
   ·rw[qAM.mp h];exact hd
 ·rintro τ ⟨l,z,rfl,hl,ha⟩
  have p0:=qAG (c.fdiv 13) (show 0<(1+(c.fdiv 7).fmod 8) from ())
  have p1:=qAU (c.fdiv 13) (show 0<(1+(c.fdiv 7).fmod 8) from ())
  refine⟨(Gv ∅ ∅),(),?_⟩
  generalize (c.fdiv 13).fmod (1+(c.fdiv 7).fmod 8)=v at p0 p1 ⊢
  obtain⟨k,rfl⟩:=qBg p0
  have e1:Txt.slice (mkS l) none (some (k:Int))=mkS (l.take k):=Bc l k
  have e2:Txt.slice (mkS l) (some ((k:Int)+1)) none=mkS (l.drop (k+1)):=AK l (k+1)
  have hL:(mkS l).length≤1000000:=by rw[mkS_len];omega
  obtain⟨d,e,hd⟩:=R1 (i:=(c.fdiv 17).fmod 26) (qAG _ ∅) (qAU _ ∅)
  refine⟨hL,(Gv ∅ ∅),∅,by decide +kernel,d,e,?_⟩
  refine⟨?_,hL,?_⟩
  ·show(Txt.slice (mkS l) none (some (k:Int))).length+1≤1000000
   rw[e1,mkS_len,qAu]
   omega
  refine⟨?_,?_⟩
  ·show(Txt.slice (mkS l) none (some (k:Int))++mkS [d]).length+(Txt.slice (mkS l) (some ((k:Int)+1)) none).length≤1000000
   rw[e1,e2,Ao,mkS_len,mkS_len,qAa,qAu,qAz]
   simp only[qAd,qAx]
   omega
  ·show R (.d (.str (Txt.slice (mkS l) none (some (k:Int))++mkS [d]++Txt.slice (mkS l) (some ((k:Int)+1)) none)))
   rw[e1,e2,Ao,Ao]
   refine q _ ⟨?_,?_,fun x hx=>?_⟩
   ·simp only[qAa,qAu,qAz,qAd,qAx]
    omega
   ·simp only[qAa,qAu,qAz,qAd,qAx]
    omega
   ·rcases qAB.mp hx with h|h
    ·rcases qAB.mp h with h|h
     ·exact ha x (qAC h)
     ·rw[qAM.mp h];exact hd
    ·exact ha x (qAD h)
variable (AW:Cal P w K mg base (CXU P w) 1 "_law_name_by" ["_law_cell"] Cw)
theorem Ek:Av ["_law_cell"] ["_law_cell"] (Ae BZ):=scN
theorem Ed (F:Fun K "_law_word_by" "_law_word_by" BZ f fd):AJ P w K mg base CX0 1 f fd ["_law_cell"] (An K mg CJ):=by
 refine fn3 F Ek (fun ss R U h=>?_) (fun cdv A outer s H E ss R U hr h=>?_)
 ·obtain⟨c,rfl,_⟩:=h;rfl
 obtain⟨c,rfl,q⟩:=h
 refine⟨_,(Bt (Ma (F6 (Ap Ak (Ap Ak (Ap Ak (Ap Ak (a2 Ak Ak)))))) (Aw BM (vN 0) Ag))),?_⟩
 have f0:=qAG c (show(0:Int)<6 from ∅)
 have f1:=qAU c (show(0:Int)<6 from ∅)
 refine⟨by show 6≤1000;decide,∅,?_⟩
 obtain⟨w,e,hw⟩:=MB (ws:=WRD) (ss:=[("least":Str),("most":Str),("sum":Str),("join":Str),("undo":Str),("left":Str)]) (by decide +kernel) f0 f1
 exact atR e (q w hw)
variable (AX:Cal P w K mg base (CXU P w) 1 "_law_word_by" ["_law_cell"] CJ)
theorem Aq:Av ["_law_script","_law_text","_law_called","_law_deep","_law_k","_law_cell","_law_one","_law_other","_law_two"] ["_law_script"] (Ae Cr):=scN
variable (Bs:mg "sorted"=none)
variable (M9:mg "max"=none)
variable (Ez:mg "list"=none)
variable (MA:mg "int"=none)
include As B1 AW AX Bs M9 Ez MA in
theorem Fz (F:Fun K "_law_drawn" "_law_drawn" Cr f fd):AJ P w K mg base CX0 2 f fd ["_law_script"] (An K mg DA):=by
 refine fn3 F Aq (fun ss R U h=>?_) (fun cdv A outer s H E ss R U hr h=>?_)
 ·obtain⟨ns,rfl,_⟩:=h;rfl
 obtain⟨ns,rfl,q⟩:=h
 refine⟨_,(Ad (A2 1 Aq (Gk hr AW (a1 (Gk hr As (a2 (vN 0) Ag)))))
  (O1 (i:=2) Aq.nd rfl (Or.inl rfl) (vN 1) Jy (Ca (DS (A2 3 Aq Ag))
  (Ca (RQ (J9 PassesOwn.never rfl (D9 rfl B1 (PA3.out (a1 (Aw BM (Gk hr As (a2 (vN 0) Ag)) Ag)))) (Gm (i:=4) Aq.nd rfl (Or.inl rfl)) (Kh.out (Ca (DS (A2 5 Aq (Gk hr As (a2 (vN 0) (Aw B8 Ag (vN 4))))))
  (Ca (DS (A2 6 Aq (Gk hr AW (a1 (Aw Bn (vN 5) Ag)))))
  (Ca (SM (pv 2) (vN 6) Jy)
  (Ca (DS (A2 7 Aq (vN 6)))
  (Q5 (XX (CY Dl (Aw BM (vN 5) Ag) Ag) (Ca (DS (A2 8 Aq (Gk hr AW (a1 (Aw B8 (Aw Bn (vN 5) Ag) (Aw Np Ag (vN 4)))))))
  (Ca (SM (pv 2) (vN 8) Jy)
  (N3 (DS (A2 7 Aq (Aw Ay (Aw Ay (Aw Ay (Aw Ay (Aw Ay (Gk hr AX (a1 (Aw Bn (vN 5) Ag))) Ak) (vN 6)) Ak) (vN 8)) Ak)))))) R9)
  (Ca (DS (A2 3 Aq (Aw B8 Ag (CP (UX rfl) rfl M9 L3.boot_max (a2 (vN 3) (MH RX rfl MA PyProof.Rows.boot_int (a1 (OP Dl (Aw BM (vN 5) Ag) Ag (Em _)))))))))
  (N3 (DS (BV (CY Dl (Aw BM (Aw Bn (vN 5) Ag) Ag) Ag) (A6 (A2 1 Aq (Aw Ay (Aw Ay (Aw Ay (Aw Ay (Aw Ay (Gk hr AX (a1 (Aw Bn (vN 5) Ag))) Ak) (vN 1)) Ak) (vN 7)) Ak))) (A6 (A2 1 Aq (Aw Ay (Aw Ay (Aw Ay (Aw Ay (Aw Ay (Gk hr AX (a1 (Aw Bn (vN 5) Ag))) Ak) (vN 7)) Ak) (vN 1)) Ak)))))))))))))))
  (Q7 2 (Bt (QI (Ap (vN 1) (a2 (Qo (O8 rfl (vN 2) rfl Ez) rfl Bs) (vN 3)))))))))),?_⟩
 refine⟨ns,2,rfl,∅,∅,fun c0=>?_⟩
 refine⟨c0,rfl,fun l0 h0=>?_⟩
 refine⟨mkS l0,rfl,fun ad=>?_⟩
 refine⟨ns,1,rfl,∅,∅,fun c1=>?_⟩
 have f0:=qAG c1 (show(0:Int)<13 from ∅)
 have f1:=qAU c1 (show(0:Int)<13 from ∅)
 refine⟨∅,⟨(),()⟩,fun n τ ks=>∃(t:Trm)(z4 z5 z6 z7 z8:Option S),τ=[some (.r (ns.map D.int)),some (.d (.str (mkS t.tx))),some (.d (.ref ad)),I t.dp,z4,z5,z6,z7,z8]∧t.ok∧t.lv≤1+2*n∧t.tx.length≤8+40*n∧ks.Nodup∧NmL t ks∧ks.length≤1+2*n,?_,?_,?_⟩
 ·exact⟨.nm l0,_,_,_,_,_,rfl,h0,qAg _,by have:=h0.2.1;exact this,by simp,fun x=>by simp[Trm.nl],qAg _⟩
 ·rintro n τ ks hn ⟨t,z4,z5,z6,z7,z8,rfl,ok,lv,tl,nd,nm,kl⟩
  have n12:n≤12:=()
  refine⟨ns,4+(0+(n:Int)),rfl,(),(),fun c=>?_⟩
  refine⟨(Gv ∅ ∅),?_⟩
  refine⟨c.fdiv 24,rfl,fun l1 h1=>?_⟩
  refine⟨rfl,mkS l1,rfl,(),?_⟩
  have k1:=FN ks (mkS l1)
  refine⟨fun τ' ks'=>∃(u:Trm)(z8:Option S),τ'=[some (.r (ns.map D.int)),some (.d (.str (mkS t.tx))),some (.d (.ref ad)),I t.dp,I (0+(n:Int)),I c,some (.d (.str (mkS l1))),some (.d (.str (mkS u.tx))),z8]∧u.ok∧u.lv≤2∧u.tx.length≤30∧u.dp=(if c.fmod 4=1 then 1 else 0)∧ks'.Nodup∧(∀x,x∈ks' ↔ x∈ks∨x∈u.nl.map mkS)∧ks'.length≤ks.length+2,?_,?_⟩
  ·refine⟨∅,?_⟩
   refine A8 (fun e=>?_) (fun e=>?_)
   ·refine⟨(Gv ∅ ∅),MS (m:=7) (n:=4) ∅ () ∅,?_⟩
    refine⟨_,rfl,fun l2 h2=>?_⟩
    have k2:=FN (HN ks (mkS l1)) (mkS l2)
    refine⟨rfl,mkS l2,rfl,(),?_⟩
    refine⟨(Gv ∅ ∅),?_⟩
    refine⟨_,rfl,fun w hw=>?_⟩
    have w5:=Iv hw
    have b1:=h1.2.1
    have b2:=h2.2.1
    refine⟨?_,?_,?_,?_,?_,?_⟩
    ·simp only[t40,t41,t44,Ao,mkS_len,qAa,qAd,qAx];omega
    ·simp only[t40,t41,t44,Ao,mkS_len,qAa,qAd,qAx];omega
    ·simp only[t40,t41,t44,Ao,mkS_len,qAa,qAd,qAx];omega
    ·simp only[t40,t41,t44,Ao,mkS_len,qAa,qAd,qAx];omega
    ·simp only[t40,t41,t44,Ao,mkS_len,qAa,qAd,qAx];omega
    refine⟨.wd w (.nm l1) (.nm l2),some (.d (.str (mkS l2))),?_,⟨hw,h1,h2⟩,qAg _,?_,?_,DO _ (DO _ nd),fun x=>?_,()⟩
    ·show [_,_,_,_,_,_,_,some (S.d (D.str (mkS w++Str.ofString "(" ++ mkS l1++Str.ofString "," ++ mkS l2++Str.ofString ")"))),_]=_
     rw[T9]
     rfl
    ·rw[OA]
     show w.length+l1.length+l2.length+3≤30
     omega
    ·rw[if_pos e]
     rfl
    ·rw[Fy,Fy,Trm.nl]
     simp[Trm.nl,or_assoc]
   ·refine⟨.nm l1,z8,rfl,h1,qA4 _,by have:=h1.2.1;exact qAE this ∅,by rw[if_neg e];rfl,DO _ nd,fun x=>?_,()⟩
    rw[Fy]
    simp[Trm.nl]
  ·rintro τ' ks' ⟨u,z8,rfl,uo,ul,ut,ud,nd',nm',kl'⟩
   refine⟨∅,?_⟩
   refine⟨(Gv ∅ ∅),∅,?_⟩
   refine A8 (fun e=>?_) (fun e=>?_)
   ·refine⟨(Gv ∅ ∅),?_⟩
    refine⟨_,rfl,fun w hw=>?_⟩
    have w5:=Iv hw
    refine⟨?_,?_,?_,?_,?_,?_⟩
    ·simp only[t40,t41,t44,Ao,mkS_len,qAa,qAd,qAx];omega
    ·simp only[t40,t41,t44,Ao,mkS_len,qAa,qAd,qAx];omega
    ·simp only[t40,t41,t44,Ao,mkS_len,qAa,qAd,qAx];omega
    ·simp only[t40,t41,t44,Ao,mkS_len,qAa,qAd,qAx];omega
    ·simp only[t40,t41,t44,Ao,mkS_len,qAa,qAd,qAx];omega
    refine⟨.wd w t u,I (0+(n:Int)),I c,some (.d (.str (mkS l1))),some (.d (.str (mkS u.tx))),z8,?_,⟨hw,ok,uo⟩,by rw[Sy];omega,by rw[OA];omega,nd',fun x=>?_,()⟩
    ·have ed:(1+(if (if decide (c.fmod 4=1)=true then (1:Int) else 0)>(t.dp:Int) then (if decide (c.fmod 4=1)=true then (1:Int) else 0) else (t.dp:Int)):Int)=((Trm.wd w t u).dp:Int):=by
      rw[Trm.dp,ud]
      by_cases e:c.fmod 4=1
      ·rw[decide_eq_true e,if_pos e,if_pos rfl];split<;>omega
      ·rw[decide_eq_false e,if_neg e,if_neg qAe];split<;>omega
     show [_,some (S.d (D.str (mkS w++Str.ofString "(" ++ mkS t.tx++Str.ofString "," ++ mkS u.tx++Str.ofString ")"))),_,I (1+(if (if decide (c.fmod 4=1)=true then (1:Int) else 0)>(t.dp:Int) then (if decide (c.fmod 4=1)=true then (1:Int) else 0) else (t.dp:Int))),_,_,_,_,_]=_
     rw[T9,ed]
     rfl
    ·rw[nm',nm,Trm.nl,qA9,qAB]
   ·refine⟨(Gv ∅ ∅),?_⟩
    refine⟨_,rfl,fun w hw=>?_⟩
    have w5:=Iv hw
    refine⟨?_,?_,?_,?_,?_,?_⟩
    ·simp only[t40,t41,t44,Ao,mkS_len,qAa,qAd,qAx];omega
    ·simp only[t40,t41,t44,Ao,mkS_len,qAa,qAd,qAx];omega
    ·simp only[t40,t41,t44,Ao,mkS_len,qAa,qAd,qAx];omega
    ·simp only[t40,t41,t44,Ao,mkS_len,qAa,qAd,qAx];omega
    ·simp only[t40,t41,t44,Ao,mkS_len,qAa,qAd,qAx];omega
    refine⟨.wd w u t,I (0+(n:Int)),I c,some (.d (.str (mkS l1))),some (.d (.str (mkS u.tx))),z8,?_,⟨hw,uo,ok⟩,by rw[Sy];omega,by rw[OA];omega,nd',fun x=>?_,()⟩
    ·have ed:(1+(if (if decide (c.fmod 4=1)=true then (1:Int) else 0)>(t.dp:Int) then (if decide (c.fmod 4=1)=true then (1:Int) else 0) else (t.dp:Int)):Int)=((Trm.wd w u t).dp:Int):=by
      rw[Trm.dp,ud]
      by_cases e:c.fmod 4=1
      ·rw[decide_eq_true e,if_pos e,if_pos rfl];split<;>omega
      ·rw[decide_eq_false e,if_neg e,if_neg qAe];split<;>omega
     show [_,some (S.d (D.str (mkS w++Str.ofString "(" ++ mkS u.tx++Str.ofString "," ++ mkS t.tx++Str.ofString ")"))),_,I (1+(if (if decide (c.fmod 4=1)=true then (1:Int) else 0)>(t.dp:Int) then (if decide (c.fmod 4=1)=true then (1:Int) else 0) else (t.dp:Int))),_,_,_,_,_]=_
     rw[T9,ed]
     rfl
    ·rw[nm',nm,Trm.nl,qA9,qAB]
     exact Or.comm
 ·rintro τ ks ⟨t,z4,z5,z6,z7,z8,rfl,ok,lv,tl,nd,nm,kl⟩
  have n12:(c1.fmod 13).toNat≤12:=()
  refine⟨rfl,?_⟩
  refine⟨ks,rfl,(),fun ls pm so=>?_⟩
  exact⟨by show 3≤1000;decide,q t ls ok () () so (pm.nodup_iff.mpr nd) (fun x=>pm.mem_iff.trans (nm x))⟩
variable (BO:Cal P w K mg base (CXU P w) 2 "_law_drawn" ["_law_script"] DA)
theorem EO:Av ["_law_text","_law_signs"] ["_law_text","_law_signs"] (Ae BA):=scN
include Cd B1 in
theorem ET (F:Fun K "_law_places" "_law_places" BA f fd):AJ P w K mg base CX0 1 f fd ["_law_text","_law_signs"] (An K mg CZ):=by
 refine fn3 F EO (fun ss R U h=>?_) (fun cdv A outer s H E ss R U hr h=>?_)
 ·obtain⟨l,rfl,_⟩:=h;rfl
 obtain⟨l,rfl,hl,ha,q⟩:=h
 refine⟨_,(Bt (OY (N:=["_law_k","_law_signs","_law_text"]) (idx:=[1,0]) (BG.mk' (Ae BA) ["_law_text","_law_signs"] rfl rfl (by decide +kernel)) rfl (D9 rfl B1 (PA3.out (a1 (CP G2 rfl Cd PySem.boot_len (a1 (vN 0)))))) MW (fun cl C s₀ H₀ fp=>(Pl (DM Sl (LP (vN 2) (vN 0) (fun _ _=>rfl)) (vN 1) rfl))) (fun cl C s₀ H₀ fp=>(vN 0)))),?_⟩
 refine⟨by rw[mkS_len];omega,?_⟩
 refine⟨⟨by rw[mkS_len];omega,by rw[mkS_len];omega⟩,fun n ds=>∃ps:List Nat,ds=ps.map (fun k=>D.int (k:Nat))∧ps.length≤n∧∀k∈ps,∃c,l[k]? = some c∧Iq c,⟨[],rfl,qAg _,fun _ h=>(nomatch h)⟩,fun n ds h=>?_,fun n x ds hx h=>?_,?_,fun ds h=>?_⟩
 ·obtain⟨ps,rfl,h,_⟩:=h
  rw[qAf]
  exact h
 ·obtain⟨hn,rfl⟩:=Kf hx
  obtain⟨ps,rfl,h1,h2⟩:=h
  rw[mkS_len] at hn
  have hn:n<l.length:=()
  have ec:l[n]? = some l[n]:=qAc hn
  have ei:(0+(n:Int)*1)=((n:Nat):Int):=()
  refine⟨by rw[mkS_len];omega,l[n],by rw[ei];exact Gh ec,?_⟩
  show if inS ⟨#[l[n]]⟩ (Str.ofString "(),")=true then _ else _
  rw[XY]
  refine A8 (fun c=>⟨ps++[n],?_,by rw[qAa];exact Nat.succ_le_succ h1,fun k hk=>?_⟩) (fun c=>⟨ps,rfl,Nat.le_succ_of_le h1,h2⟩)
  ·rw[qA9]
   show _++[D.int (0+(n:Int)*1)]=_
   rw[ei]
   rfl
  ·rcases qAB.mp hk with h|h
   ·exact h2 k h
   ·rw[qAM.mp h]
    exact⟨_,ec,c⟩
 ·rw[BU,mkS_len]
  omega
 ·obtain⟨ps,rfl,_,h⟩:=h
  exact q ps h
variable (BB:Cal P w K mg base (CXU P w) 1 "_law_places" ["_law_text","_law_signs"] CZ)
theorem AH:Av ["_law_text","_law_cell","_law_other","_law_way","_law_at","_law_places_here","_law_some"] ["_law_text","_law_cell","_law_other"] (Ae BX):=scN
include Cd BB in
theorem Es (F:Fun K "_law_spoiled" "_law_spoiled" BX f fd):AJ P w K mg base CX0 2 f fd ["_law_text","_law_cell","_law_other"] (An K mg CC):=by
 refine fn3 F AH (fun ss R U h=>?_) (fun cdv A outer s H E ss R U hr h=>?_)
 ·obtain⟨t,c,o,rfl,_⟩:=h;rfl
 obtain⟨t,c,o,rfl,ok,hl,q⟩:=h
 refine⟨_,(Ad (A2 3 AH (Aw BM (vN 1) Ag))
  (Ad (A2 4 AH (Aw BM (vN 2) (Aw B8 (CP G2 rfl Cd PySem.boot_len (a1 (vN 0))) Ag)))
  (Ad (BV (CY Dl (vN 3) Ag) (Ad (A2 6 AH Ak)
  (Bt (Aw Ay (Aw Ay (AO (vN 0) B9 (AQ (vN 4))) (LP (vN 6) (Aw BM (Aw Bn (vN 1) Ag) (CP G2 rfl Cd PySem.boot_len (a1 (vN 6)))) (fun _ _=>rfl))) (AO (vN 0) (AQ (vN 4)) B9)))) Au)
  (Ad (A2 5 AH (Gk hr BB (a2 (vN 0) Ak)))
  (K4 (BV (PW3.pt (OE (CY Dl (vN 3) Ag) (Ko (CY Ta (Lq Cd (vN 5)) Ag)))) (Ad (A2 4 AH (Ma (vN 5) (Aw BM (vN 2) (Lq Cd (vN 5)))))
  (Bt (Aw Ay (AO (vN 0) B9 (AQ (vN 4))) (AO (vN 0) (AQ (Aw B8 (vN 4) Ag)) B9)))) Au)
  (K4 (BV (PW3.pt (OE (CY Dl (vN 3) Ag) (Ko (CY Ta (Lq Cd (vN 5)) Ag)))) (Ad (A2 4 AH (Ma (vN 5) (Aw BM (vN 2) (Lq Cd (vN 5)))))
  (Bt (Aw Ay (Aw Ay (AO (vN 0) B9 (AQ (vN 4))) (LP (vN 0) (vN 4) (fun _ _=>rfl))) (AO (vN 0) (AQ (vN 4)) B9)))) Au)
  (Ad (BV (CY Dl (vN 3) Ag) (Bt (Aw Ay (Aw Ay Ak (vN 0)) Ak)) Au)
  (Ad (BV (CY Dl (vN 3) Ag) (Bt (Aw Ay (Aw Ay (Aw Ay (Ma (F6 (Ap Ak (Ap Ak (Ap Ak (Ap Ak (Ap Ak (a2 Ak Ak))))))) (Aw BM (Aw Bn (vN 1) Ag) Ag)) Ak) (vN 0)) Ak)) Au)
  (Ad (BV (CY Dl (vN 3) Ag) (Bt (Aw Ay (vN 0) (Ma (F6 (Ap Ak (Ap Ak (Ap Ak (Ap Ak (a2 Ak Ak)))))) (Aw BM (Aw Bn (vN 1) Ag) Ag)))) Au)
  (Ad (BV (CY Dl (vN 3) Ag) (Bt (Ma (F6 (Ap (Aw Ay (Aw Ay Ak (vN 0)) Ak) (Ap (Aw Ay (Aw Ay Ak (vN 0)) Ak) (Ap (Aw Ay (Aw Ay Ak (vN 0)) Ak) (a2 (Aw Ay (Aw Ay Ak (vN 0)) Ak) Ak))))) (Aw BM (Aw Bn (vN 1) Ag) Ag))) Au)
  (Bt (Ma (F6 (Ap V2 (Ap Ag (Ap N1 (a2 (F6 (a1 (vN 0))) (QI (a2 (vN 0) (vN 0)))))))) (Aw BM (Aw Bn (vN 1) Ag) Ag))))))))))))),?_⟩
 have hL:(mkS t.tx).length≤1000000:=by rw[mkS_len];omega
 have asc:=N9 ok
 have e1:∀k:Nat,Txt.slice (mkS t.tx) none (some (k:Int))=mkS (t.tx.take k):=Bc t.tx
 have e2:∀k:Nat,Txt.slice (mkS t.tx) (some (k:Int)) none=mkS (t.tx.drop k):=AK t.tx
 refine⟨∅,?_⟩
 refine⟨hL,by rw[mkS_len];omega,?_⟩
 have p0:=qAG o (show 0<((mkS t.tx).length:Int)+1 from ())
 generalize o.fmod (((mkS t.tx).length:Int)+1)=v at p0 ⊢
 obtain⟨k,rfl⟩:=qBg p0
 clear p0
 refine A8 (fun _=>?_) (fun _=>?_)
 ·obtain⟨d,e,hd⟩:=EZ (xs:=Vr) (i:=(c.fdiv 8).fmod (Vr.length:Int)) (qAG _ (by decide +kernel)) (qAU _ (by decide +kernel))
  obtain⟨d1,d2,d3⟩:=OZ d hd
  refine⟨hL,(Gv ∅ ∅),by decide +kernel,by decide +kernel,by decide +kernel,d,e,?_⟩
  refine⟨?_,hL,?_,?_⟩
  ·show(Txt.slice (mkS t.tx) none (some (k:Int))).length+(mkS [d]).length≤1000000
   rw[e1,mkS_len,mkS_len,qAu]
   show _+1≤_
   omega
  ·show(Txt.slice (mkS t.tx) none (some (k:Int))++mkS [d]).length+(Txt.slice (mkS t.tx) (some (k:Int)) none).length≤1000000
   rw[e1,e2,Ao,mkS_len,mkS_len,qAa,qAu,qAz]
   show _+1+_≤_
   omega
  ·show R (.d (.str (Txt.slice (mkS t.tx) none (some (k:Int))++mkS [d]++Txt.slice (mkS t.tx) (some (k:Int)) none)))
   rw[e1,e2,Ao,Ao]
   refine q _ (Ji.str ?_ (fun x hx=>?_) (Px (c:=d) (by simp) d1 d2))
   ·simp only[qAa,qAu,qAz,qAd,qAx]
    omega
   ·rcases qAB.mp hx with h|h
    ·rcases qAB.mp h with h|h
     ·exact asc x (qAC h)
     ·rw[qAM.mp h];exact d3
    ·exact asc x (qAD h)
 refine⟨t.tx,rfl,(),asc,fun ps hps=>?_⟩
 have lps:((ps.map fun k=>D.int (k:Nat)).length:Int)=(ps.length:Int):=by rw[qAf]
 refine⟨?_,?_,?_⟩
 ·refine A8 (fun _=>?_) (fun _=>rfl)
  show if decide (((ps.map fun k=>D.int (k:Nat)).length:Int)>0)=true then _ else _
  rw[lps]
  refine A8 (fun h0=>?_) (fun _=>rfl)
  obtain⟨k',e,hk⟩:=Rj (ps:=ps) (o:=o) ()
  rw[←lps] at e
  refine⟨by rw[qAf];omega,?_⟩
  refine atR e ?_
  obtain⟨c',hc,hs⟩:=hps k' hk
  refine⟨hL,hL,?_,?_⟩
  ·show(Txt.slice (mkS t.tx) none (some (k':Int))).length+(Txt.slice (mkS t.tx) (some ((k'+1:Nat):Int)) none).length≤1000000
   rw[e1,e2,mkS_len,mkS_len,qAu,qAz]
   omega
  ·show R (.d (.str (Txt.slice (mkS t.tx) none (some (k':Int))++Txt.slice (mkS t.tx) (some ((k'+1:Nat):Int)) none)))
   rw[e1,e2,Ao]
   refine q _ (Ji.str ?_ (fun x hx=>?_) (P4 ok hs hc))
   ·rw[qAa,qAu,qAz]
    omega
   ·rcases qAB.mp hx with h|h
    ·exact asc x (qAC h)
    ·exact asc x (qAD h)
 ·refine A8 (fun _=>?_) (fun _=>rfl)
  show if decide (((ps.map fun k=>D.int (k:Nat)).length:Int)>0)=true then _ else _
  rw[lps]
  refine A8 (fun h0=>?_) (fun _=>rfl)
  obtain⟨k',e,hk⟩:=Rj (ps:=ps) (o:=o) ()
  rw[←lps] at e
  refine⟨by rw[qAf];omega,?_⟩
  refine atR e ?_
  obtain⟨c',hc,hs⟩:=hps k' hk
  refine⟨hL,hL,c',Gh hc,?_⟩
  refine⟨?_,hL,?_,?_⟩
  ·show(Txt.slice (mkS t.tx) none (some (k':Int))).length+(mkS [c']).length≤1000000
   rw[e1,mkS_len,mkS_len,qAu]
   show _+1≤_
   omega
  ·show(Txt.slice (mkS t.tx) none (some (k':Int))++mkS [c']).length+(Txt.slice (mkS t.tx) (some (k':Int)) none).length≤1000000
   rw[e1,e2,Ao,mkS_len,mkS_len,qAa,qAu,qAz]
   show _+1+_≤_
   omega
  ·show R (.d (.str (Txt.slice (mkS t.tx) none (some (k':Int))++mkS [c']++Txt.slice (mkS t.tx) (some (k':Int)) none)))
   rw[e1,e2,Ao,Ao,qBZ]
   refine q _ (Ji.str ?_ (fun x hx=>?_) (LF ok hs))
   ·simp only[qAa,qAu,qAz,qAd,qAx]
    omega
   ·rcases qAB.mp hx with h|h
    ·exact asc x (qAC h)
    ·rcases qAB.mp h with h|h
     ·rw[qAM.mp h];unfold Iq at hs;omega
     ·exact asc x (qAD h)
 refine A8 (fun _=>?_) (fun _=>?_)
 ·obtain⟨x1,x2,x3⟩:=bx3 (p:=[115,117,109,40]) (r:=[44,97,98,99,100,101,102,103,104,105,41]) (P:=Str.ofString "sum(") (S:=Str.ofString ",abcdefghi)") (by decide +kernel) (by decide +kernel) ∅ ∅ ∅ ∅ ok hl (by
   have:=Fi (X:=[97,98,99,100,101,102,103,104,105]) (w:=[115,117,109]) ok ∅ (Mc ∅ ∅)
   simpa using this)
  exact⟨x1,x2,q _ x3⟩
 have g7:=fun(m:Int)(h:0<m)=>And.intro (qAG (c.fdiv 8) h) (qAU (c.fdiv 8) h)
 refine A8 (fun _=>?_) (fun _=>?_)
 ·refine⟨by show 7≤1000;decide,(Gv ∅ ∅),∅,?_⟩
  obtain⟨w,e,hw⟩:=MB (ws:=W7) (ss:=[("sums":Str),("joins":Str),("lefts":Str),("a":Str),("undos":Str),("mosts":Str),("leas":Str)]) (by decide +kernel) (g7 7 ∅).1 (g7 7 ∅).2
  refine atR e ?_
  obtain⟨w1,w2,w3,w4⟩:=VY w hw
  obtain⟨x1,x2,x3⟩:=bx3 (p:=w++[40]) (r:=[44,98,41]) (P:=mkS w++Str.ofString "(") (S:=Str.ofString ",b)") (by rw[t40,Ao]) (by decide +kernel) (by rw[qAa];show _+1≤_;omega) ∅ (fun x hx=>by
   rcases qAB.mp hx with h|h
   ·exact w4 x h
   ·rw[qAM.mp h];decide) ∅ ok hl (by
   have:=Nn (X:=[98]) ok w1 w2
   simpa using this)
  refine⟨?_,x1,x2,q _ x3⟩
  rw[t40,mkS_len,mkS_len]
  show _+1≤_
  omega
 refine A8 (fun _=>?_) (fun _=>?_)
 ·refine⟨by show 6≤1000;decide,(Gv ∅ ∅),∅,?_⟩
  obtain⟨r,e,hr⟩:=MB (ws:=R6) (ss:=[("(a)":Str),("()":Str),(")":Str),(",a":Str),("(":Str),(",":Str)]) (by decide +kernel) (g7 6 ∅).1 (g7 6 ∅).2
  refine atR e ?_
  obtain⟨r1,r2,r3⟩:=Uj r hr
  refine⟨?_,?_⟩
  ·rw[mkS_len,mkS_len]
   omega
  ·show R (.d (.str (mkS t.tx++mkS r)))
   rw[Ao]
   refine q _ (Ji.str (by rw[qAa];omega) (fun x hx=>?_) (Ej (p:=[]) ok r3))
   rcases qAB.mp hx with h|h
   ·exact asc x h
   ·exact r2 x h
 refine A8 (fun _=>?_) (fun _=>?_)
 ·obtain⟨a1,a2,a3⟩:=bx3 (p:=[115,117,109,40]) (r:=[44,41]) (P:=Str.ofString "sum(") (S:=Str.ofString ",)") (by decide +kernel) (by decide +kernel) ∅ ∅ ∅ ∅ ok hl (by
   have:=Fi (X:=[]) (w:=[115,117,109]) ok ∅ Kc
   simpa using this)
  obtain⟨b1,b2,b3⟩:=bx3 (p:=[115,117,109,40,44]) (r:=[41]) (P:=Str.ofString "sum(,") (S:=Str.ofString ")") (by decide +kernel) (by decide +kernel) ∅ ∅ ∅ ∅ ok hl (by
   have:=LL (w:=[115,117,109]) (r:=t.tx++[41]) ∅
   simpa using this)
  obtain⟨c1,c2,c3⟩:=bx3 (p:=[115,117,109,40]) (r:=[41]) (P:=Str.ofString "sum(") (S:=Str.ofString ")") (by decide +kernel) (by decide +kernel) ∅ ∅ ∅ ∅ ok hl (Ej ok ∅)
  obtain⟨d1,d2,d3⟩:=bx3 (p:=[40]) (r:=[41]) (P:=Str.ofString "(") (S:=Str.ofString ")") (by decide +kernel) (by decide +kernel) ∅ ∅ ∅ ∅ ok hl (Ej ok ∅)
  have e3:Ji (.str (Str.ofString "")):=by
   rw[show Str.ofString ""=mkS [] by decide +kernel]
   exact Ji.str ∅ (fun x hx=>nomatch hx) Kc
  refine⟨a1,a2,b1,b2,c1,c2,d1,d2,by show 5≤1000;decide,(Gv ∅ ∅),∅,?_⟩
  obtain⟨d,e,m⟩:=EZ (xs:=[D.str (Str.ofString "sum(" ++ mkS t.tx++Str.ofString ",)"),D.str (Str.ofString "sum(," ++ mkS t.tx++Str.ofString ")"),D.str (Str.ofString "sum(" ++ mkS t.tx++Str.ofString ")"),D.str (Str.ofString "(" ++ mkS t.tx++Str.ofString ")"),D.str (Str.ofString "")]) (g7 5 ∅).1 (g7 5 ∅).2
  refine atR e (q d ?_)
  simp only[qAq,qBH,or_false] at m
  rcases m with rfl|rfl|rfl|rfl|rfl
  ·exact a3
  ·exact b3
  ·exact c3
  ·exact d3
  ·exact e3
 ·refine⟨by show 1≤1000;decide,by show 2≤1000;decide,by show 5≤1000;decide,(Gv ∅ ∅),∅,?_⟩
  obtain⟨d,e,m⟩:=EZ (xs:=[D.non,D.int 5,D.bl true,D.lst [D.str (mkS t.tx)],D.tup [D.str (mkS t.tx),D.str (mkS t.tx)]]) (g7 5 ∅).1 (g7 5 ∅).2
  refine atR e (q d ?_)
  simp only[qAq,qBH,or_false] at m
  rcases m with rfl|rfl|rfl|rfl|rfl<;>exact Ji.other rfl rfl
variable (Bq:Cal P w K mg base (CXU P w) 2 "_law_spoiled" ["_law_text","_law_cell","_law_other"] CC)
theorem CD:Av ["_law_text","e"] ["_law_text"] (Ae B5):=scN
variable (z_ValueError:mg "ValueError"=none)
variable (m_CurveError:mg "CurveError"=some (.ref K_CurveError))
variable (hn_CurveError:HnC K K_CurveError)
variable (mr_NoText_CurveError:PySem.W.mroIn K K_NoText (.ref K_CurveError)=some true)
variable (kT_NoText_ValueError:PySem.W.kitOne K (.ref K_NoText) (.type "ValueError")=some true)
variable (xi_NoText:ExI K K_NoText)
variable (kt_NoText_NoText:PySem.W.kitOne K (.ref K_NoText) (.ref K_NoText)=some true)
variable (m_NoWay:mg "NoWay"=some (.ref K_NoWay))
variable (kt_NoText_NoWay:PySem.W.kitOne K (.ref K_NoText) (.ref K_NoWay)=some false)
variable (m_NoTime:mg "NoTime"=some (.ref K_NoTime))
variable (kt_NoText_NoTime:PySem.W.kitOne K (.ref K_NoText) (.ref K_NoTime)=some false)
variable (m_NoRow:mg "NoRow"=some (.ref K_NoRow))
variable (kt_NoText_NoRow:PySem.W.kitOne K (.ref K_NoText) (.ref K_NoRow)=some false)
variable (m_NoRatio:mg "NoRatio"=some (.ref K_NoRatio))
variable (kt_NoText_NoRatio:PySem.W.kitOne K (.ref K_NoText) (.ref K_NoRatio)=some false)
variable (m_NoName:mg "NoName"=some (.ref K_NoName))
variable (kt_NoText_NoName:PySem.W.kitOne K (.ref K_NoText) (.ref K_NoName)=some false)
variable (m_NoHouse:mg "NoHouse"=some (.ref K_NoHouse))
variable (kt_NoText_NoHouse:PySem.W.kitOne K (.ref K_NoText) (.ref K_NoHouse)=some false)
variable (m_NoEnd:mg "NoEnd"=some (.ref K_NoEnd))
variable (kt_NoText_NoEnd:PySem.W.kitOne K (.ref K_NoText) (.ref K_NoEnd)=some false)
variable (m_NoCurve:mg "NoCurve"=some (.ref K_NoCurve))
variable (kt_NoText_NoCurve:PySem.W.kitOne K (.ref K_NoText) (.ref K_NoCurve)=some false)
include Aj m_NoText Bf z_ValueError m_CurveError hn_CurveError mr_NoText_CurveError kT_NoText_ValueError xi_NoText kt_NoText_NoText m_NoWay kt_NoText_NoWay m_NoTime kt_NoText_NoTime m_NoRow kt_NoText_NoRow m_NoRatio kt_NoText_NoRatio m_NoName kt_NoText_NoName m_NoHouse kt_NoText_NoHouse m_NoEnd kt_NoText_NoEnd m_NoCurve kt_NoText_NoCurve in
theorem D8 (F:Fun K "_law_refused" "_law_refused" B5 f fd):AJ P w K mg base CX0 18 f fd ["_law_text"] (An K mg CI):=by
 refine fn3 F CD (fun ss R U h=>?_) (fun cdv A outer s H E ss R U hr h=>?_)
 ·obtain⟨x,rfl,_⟩:=h;rfl
 obtain⟨x,rfl,px,hx,q⟩:=h
 refine⟨_,(Hw (PZ (i:=1) (y0:="NoText") rfl rfl (fun _ _ z=>z) Bf (hr.mono ∅) rfl (a1 (vN 0)) CD.nd rfl (Or.inl rfl) rfl rfl m_CurveError hn_CurveError (Yx m_NoText mr_NoText_CurveError) m_NoText (fun ea oe hO=>(K4 (BV (PW3.pt (C1 (A3 (Fx hO xi_NoText kt_NoText_NoCurve (pv 1) rfl m_NoCurve rfl Aj)) (C1 (A3 (Fx hO xi_NoText kt_NoText_NoEnd (pv 1) rfl m_NoEnd rfl Aj)) (C1 (A3 (Fx hO xi_NoText kt_NoText_NoHouse (pv 1) rfl m_NoHouse rfl Aj)) (C6 (A3 (Fx hO xi_NoText kt_NoText_NoName (pv 1) rfl m_NoName rfl Aj))))))) (Bt N1) Au)
  (K4 (BV (PW3.pt (C1 (A3 (Fx hO xi_NoText kt_NoText_NoRatio (pv 1) rfl m_NoRatio rfl Aj)) (C1 (A3 (Fx hO xi_NoText kt_NoText_NoRow (pv 1) rfl m_NoRow rfl Aj)) (C1 (A3 (Fx hO xi_NoText kt_NoText_NoTime (pv 1) rfl m_NoTime rfl Aj)) (C6 (A3 (Fx hO xi_NoText kt_NoText_NoWay (pv 1) rfl m_NoWay rfl Aj))))))) (Bt N1) Au)
  (Bt (SO (Fx hO xi_NoText kt_NoText_NoText (pv 1) rfl m_NoText rfl Aj) (QV (Rq (T:="ValueError") hO xi_NoText kT_NoText_ValueError (pv 1) rfl z_ValueError Ei rfl Aj))))))))
  (Bt N1)),?_⟩
 refine⟨fun _=>False,⟨x,rfl,px,fun _=>⟨rfl,fun ea=>?_⟩,fun l e=>?_⟩,fun _ z=>z.elim⟩
 ·refine⟨⟨rfl,rfl,rfl,rfl,rfl⟩,⟨rfl,rfl,rfl,rfl,rfl⟩,?_⟩
  exact⟨rfl,rfl,q⟩
 ·obtain⟨hl,ha,hn⟩:=hx l e
  refine⟨hl,ha,fun t ht=>(hn t ht).elim,fun _=>⟨rfl,fun ea=>?_⟩⟩
  refine⟨⟨rfl,rfl,rfl,rfl,rfl⟩,⟨rfl,rfl,rfl,rfl,rfl⟩,?_⟩
  exact⟨rfl,rfl,q⟩
variable (A9:Cal P w K mg base (CXU P w) 18 "_law_refused" ["_law_text"] CI)
theorem BC:Av ["_law_text","_law_due","_law_term","_law_told","_law_shown"] ["_law_text","_law_due"] (Ae Ct):=scN
variable (O_Term_shown:I0 P w K mg base 1 "Term" "shown" ["self"] Cg)
variable (O_WordTerm_shown:I0 P w K mg base 1 "WordTerm" "shown" ["self"] Cg)
variable (O_Term_names:I0 P w K mg base 1 "Term" "names" ["self"] K2)
variable (O_WordTerm_names:I0 P w K mg base 12 "WordTerm" "names" ["self"] (Qy 10))
variable (ik_Term:∀(c:Str) b C,(FJ c∧b=true)→rA K c C→IsC K C K_Term b)
variable (m_Term:mg "Term"=some (.ref K_Term))
include Aj HV Bf Ez O_Term_shown O_WordTerm_shown O_Term_names O_WordTerm_names ik_Term m_Term in
theorem F9 (F:Fun K "_law_holds" "_law_holds" Ct f fd):AJ P w K mg base CX0 18 f fd ["_law_text","_law_due"] (An K mg Dz):=by
 refine fn3 F BC (fun ss R U h=>?_) (fun cdv A outer s H E ss R U hr h=>?_)
 ·obtain⟨t,ls,rfl,_⟩:=h;rfl
 obtain⟨t,ls,rfl,ok,hd,hv,hl,so,nd,nm,q⟩:=h
 refine⟨_,(Ad (A2 2 BC (Gk hr Bf (a1 (vN 0))))
  (Ad (BV (w_not (A3 (VX ik_Term (vN 2) rfl Aj rfl m_Term))) (Bt N1) Au)
  (Ad (A2 3 BC (NQ (Bz hr O_Term_names (vN 2)) (Bz hr O_WordTerm_names (vN 2))))
  (Ad (A2 4 BC (NQ (Bz hr O_Term_shown (vN 2)) (Bz hr O_WordTerm_shown (vN 2))))
  (K4 (BV (PW3.pt (C1 (w_not (A3 (Qd .list (vN 3) rfl Aj rfl Ez qB1))) (C1 (VH 1 (hu1 hr ∅) (vN 3) (vN 1)) (C1 (w_not (A3 (Qd .str (vN 4) rfl Aj rfl HV qCM))) (C6 (CY Zy (vN 4) (vN 0))))))) (Bt N1) Au)
  (Ad (T4 (H0 (Ie PySem.F.plainAttrs_list PySem.F.slot_list_append PySem.F.type_list_append Hb (pv 3) (Az (PE3.out Ak) A5))))
  (Bt (SO (Ux 1 (hu1 hr ∅) (NQ (Bz hr O_Term_names (vN 2)) (Bz hr O_WordTerm_names (vN 2))) (vN 1)) (QV (OP Dl (NQ (Bz hr O_Term_shown (vN 2)) (Bz hr O_WordTerm_shown (vN 2))) (vN 0) (Em _))))))))))),?_⟩
 refine⟨_,rfl,rfl,fun z=>(by cases z),fun l e=>?_⟩
 have e':t.tx=l:=Fw (D.str.inj e)
 subst e'
 refine⟨(),fun c hc=>?_,fun t' h'=>?_,fun hno=>(hno t ⟨ok,hd,rfl⟩).elim⟩
 ·have:=Trm.chr ok c hc
  unfold ltr Iq at this
  omega
 have et:=N0 h'.1 ok h'.2.2
 rw[et]
 clear et h'
 have l2:ls.length≤25:=by
  have:=Fv nd fun x hx=>(nm x).mp hx
  rw[qAf] at this
  exact qAE this hv
 have eq1:eqL 1 (ls.map D.str) (ls.map D.str)=true:=M6 1 _ (BD ls)
 cases t with
 |nm l =>
  have el:[mkS l]=ls:=Fp (by simp) nd (fun x=>by rw[nm];simp[Trm.nl]) rfl so
  subst el
  refine⟨true,⟨.inl rfl,rfl⟩,?_⟩
  refine Or.inl ⟨rfl,by decide +kernel,l,rfl,?_⟩
  refine Or.inl ⟨rfl,by decide +kernel,_,_,_,mkS l,rfl,.inl rfl,rfl,?_⟩
  refine⟨⟨trivial,BD [mkS l],BD [mkS l],?_⟩,?_⟩
  ·refine iF ?_ (by show(!eqL 1 (List.map D.str [mkS l]) (List.map D.str [mkS l]))=false;rw[eq1];rfl)
   exact⟨trivial,Xq (fun c=>absurd rfl c) (fun _=>rfl)⟩
  refine⟨by show 1<1000000;decide,?_⟩
  refine Or.inl ⟨rfl,by decide +kernel,l,rfl,?_⟩
  refine⟨BD [mkS l],BD [mkS l],?_⟩
  refine iT ?_ eq1
  refine Or.inl ⟨rfl,by decide +kernel,_,_,_,mkS l,rfl,.inl rfl,rfl,?_⟩
  show R (.d (.bl (decide (mkS l=mkS l))))
  rw[decide_eq_true rfl]
  exact q
 |wd w a b =>
  refine⟨true,⟨.inr rfl,rfl⟩,?_⟩
  refine Or.inr ⟨rfl,by decide +kernel,w,a,b,rfl,hd,(),fun la s1 s2 s3=>?_⟩
  have ea:ls=la:=Fp nd s2 (fun x=>(nm x).trans (s3 x).symm) so s1
  rw[←ea]
  clear ea s1 s2 s3 la
  refine Or.inr ⟨rfl,by decide +kernel,_,_,_,mkS (Trm.wd w a b).tx,rfl,.inr rfl,rfl,?_⟩
  refine⟨⟨trivial,BD ls,BD ls,?_⟩,?_⟩
  ·refine iF ?_ (by show(!eqL 1 (List.map D.str ls) (List.map D.str ls))=false;rw[eq1];rfl)
   exact⟨trivial,Xq (fun c=>absurd rfl c) (fun _=>rfl)⟩
  refine⟨by rw[qAf];omega,?_⟩
  refine Or.inr ⟨rfl,by decide +kernel,w,a,b,rfl,hd,(),fun la s1 s2 s3=>?_⟩
  have ea:ls=la:=Fp nd s2 (fun x=>(nm x).trans (s3 x).symm) so s1
  rw[←ea]
  clear ea s1 s2 s3 la
  refine⟨BD ls,BD ls,?_⟩
  refine iT ?_ eq1
  refine Or.inr ⟨rfl,by decide +kernel,_,_,_,mkS (Trm.wd w a b).tx,rfl,.inr rfl,rfl,?_⟩
  show R (.d (.bl (decide (mkS (Trm.wd w a b).tx=mkS (Trm.wd w a b).tx))))
  rw[decide_eq_true rfl]
  exact q
variable (BQ:Cal P w K mg base (CXU P w) 18 "_law_holds" ["_law_text","_law_due"] Dz)
theorem Oq:Av ["_law_script","_law_drawn_here"] ["_law_script"] (Ae HR):=scN
include As BO Bq A9 BQ in
theorem R0 (F:Fun K "law" "law" HR f fd):AJ P w K mg base CX0 19 f fd ["_law_script"] (An K mg RS):=by
 refine fn3 F Oq (fun ss R U h=>?_) (fun cdv A outer s H E ss R U hr h=>?_)
 ·obtain⟨ns,rfl,_⟩:=h;rfl
 obtain⟨ns,rfl,hn,q⟩:=h
 refine⟨_,(Ad (A2 1 Oq (Gk hr BO (a1 (vN 0))))
  (Hw (BV (CY Dl (Aw BM (Gk hr As (a2 (vN 0) Ag)) Ag) Ag) (A6 (BV (w_not (A3 (Gk hr A9 (a1 (Gk hr Bq (Ap (vK 1) (a2 (Aw Bn (Gk hr As (a2 (vN 0) Ag)) Ag) (Gk hr As (a2 (vN 0) Ag))))))))) (Bt N1) Au)) Au)
  (Ad (BV (CY Ta (vK 1) Ag) (Bt (Gk hr A9 (a1 (vK 1)))) Au)
  (Bt (Gk hr BQ (a2 (vK 1) (vK 1))))))),?_⟩
 refine⟨ns,rfl,fun t ls ok lv tl so nd nm=>?_⟩
 have asc:∀c∈t.tx,c<128:=fun c hc=>by
  have:=Trm.chr ok c hc
  unfold ltr Iq at this
  omega
 refine⟨fun τ=>τ=[some (.r (ns.map D.int)),some (.d (.tup [.str (mkS t.tx),.lst (ls.map D.str),.int t.dp]))],?_,?_⟩
 ·refine⟨ns,0,rfl,∅,∅,fun c=>?_⟩
  refine⟨∅,?_⟩
  refine A8 (fun _=>?_) (fun _=>rfl)
  refine⟨ns,0,rfl,∅,∅,fun c1=>?_⟩
  refine⟨(Gv ∅ ∅),?_⟩
  refine⟨ns,3,rfl,∅,∅,fun c2=>?_⟩
  refine⟨t,c1.fdiv 2,c2,rfl,ok,tl,fun x hx=>?_⟩
  refine⟨x,rfl,hx.p,fun l e=>?_,rfl⟩
  obtain⟨h1,h2,h3⟩:=hx.t l e
  exact⟨h1,h2,fun u hu=>h3 u hu.1 hu.2.2⟩
 rintro τ rfl
 show if decide ((10:Int)<(t.dp:Int))=true then _ else _
 refine A8 (fun c=>?_) (fun c=>?_)
 ·refine⟨_,rfl,rfl,fun l e=>?_,q⟩
  have e':t.tx=l:=Fw (D.str.inj e)
  subst e'
  refine⟨(),asc,fun u hu=>?_⟩
  have et:=N0 hu.1 ok hu.2.2
  subst et
  have:=hu.2.1
  omega
 ·exact⟨t,ls,rfl,ok,(),lv,tl,so,nd,nm,q⟩
end
abbrev Due (l:PySem.W.OpenLaw)(w:World)(K:PySem.W.Frag)(mg:Str→Option Value)(fa:Addr):Prop:=∃fd:FuncData,(∀(s:Shared)(v:Value),BindsTo s fd ⟨[v],[]⟩ [("_law_script",v)])∧∀base:Heap,K.In base→base.Ns mainGlobals mg→∃mg',AJ l.prog w K mg base CX0 19 fa fd ["_law_script"] (An K mg' ID)
theorem all_mk {l:PySem.W.OpenLaw}{w:World}{K:PySem.W.Frag}{h:Heap}{mg:Str→Option Value}{fa:Addr} (X:K.In h) (G:h.Ns mainGlobals mg) (hfa:mg "law"=some (.ref fa)) (fx:Facts l K):Due l w K mg fa:=by
 obtain @⟨kV,dc,pm,cd,ct,oc,od,an,sl,fL,K_CurveError,K_NoRatio,K_NoCurve,K_NoTime,K_NoHouse,K_NoWay,K_NoText,K_NoName,K_NoEnd,K_NoRow,K_Term,K_WordTerm,gt_LETTERS_0,gt_LONGEST_NAME_1,gt_WORDS_2,gt_WORDS_3,gt_WORDS_4,gt_WORDS_5,gt_WORDS_6,gt_WORDS_7,ga_WORDS_8,gd_WORDS_9,gn_WORDS_9,gs_WORDS_9,gt_DEEPEST_12,f_Ti,f_Ts,f_Tn,f_Wi,f_Wn,r0,r1,r2,r3,r4,r5,r6,r7,r8,r9,r10,r11,r12,aL,lL,cL,kL,z0,z1,z2,z3,z4,z5,z6,z7,z8,z9,z10,z11,n_CurveError,n_NoRatio,n_NoCurve,n_NoTime,n_NoHouse,n_NoWay,n_NoText,n_NoName,n_NoEnd,n_NoRow,x_NoText,n_LETTERS,n_LONGEST_NAME,n_WORDS,n_gl_WORDS_12,n_DEEPEST,h0_CurveError,h1_CurveError,h2_CurveError,mr_NoText_CurveError,kT_NoText_ValueError,i0_NoText,i1_NoText,i2_NoText,i3_NoText,i4_NoText,i5_NoText,i6_NoText,i7_NoText,kt_NoText_NoText,kt_NoText_NoWay,kt_NoText_NoTime,kt_NoText_NoRow,kt_NoText_NoRatio,kt_NoText_NoName,kt_NoText_NoHouse,kt_NoText_NoEnd,kt_NoText_NoCurve,cf_Term,cf_WordTerm,rm_Term_init,rm_Term_shown,rm_Term_names,rm_WordTerm_init,rm_WordTerm_names,rm_WordTerm_shown,na_Tt,na_Wtext,na_Wword,na_Wone,na_Wother,cg_T,cr_T,ci_T,ih_n,ih_t,kt_T,kt_W⟩:=fx
 have e:=hfa.symm.trans (qAH X G aL)
 cases e
 have JI:=qAQ X G z0
 have Aj:=qAQ X G z1
 have HV:=qAQ X G z2
 have Mg:=qAQ X G z3
 have Cd:=qAQ X G z4
 have Ce:=qAQ X G z5
 have B1:=qAQ X G z6
 have Bs:=qAQ X G z7
 have M9:=qAQ X G z8
 have Ez:=qAQ X G z9
 have MA:=qAQ X G z10
 have z_ValueError:=qAQ X G z11
 have ec_NoText:ExC K "NoText" K_NoText:=⟨n_NoText,x_NoText⟩
 have m_NoText:=qAH X G n_NoText
 have gc_LETTERS:GC K mg "LETTERS" (.str "abcdefghijklmnopqrstuvwxyz"):=KD.of (qAH X G n_LETTERS) KD.str
 have gc_LONGEST_NAME:GC K mg "LONGEST_NAME" (.int 8):=KD.of (qAH X G n_LONGEST_NAME) KD.int
 have gc_WORDS:GC K mg "WORDS" (.tup [(.str "least"),(.str "most"),(.str "sum"),(.str "join"),(.str "undo"),(.str "left")]):=KD.of (qAH X G n_WORDS) (KD.tup n_gl_WORDS_12 (qB5 rfl) (.cons KD.str (.cons KD.str (.cons KD.str (.cons KD.str (.cons KD.str (.cons KD.str .nil)))))))
 have gc_DEEPEST:GC K mg "DEEPEST" (.int 10):=KD.of (qAH X G n_DEEPEST) KD.int
 have m_CurveError:=qAH X G n_CurveError
 have hn_CurveError:HnC K K_CurveError:=⟨h0_CurveError,h1_CurveError,h2_CurveError⟩
 have xi_NoText:ExI K K_NoText:=⟨i0_NoText,i1_NoText,i2_NoText,i3_NoText,i4_NoText,i5_NoText,i6_NoText,i7_NoText⟩
 have m_NoWay:=qAH X G n_NoWay
 have m_NoTime:=qAH X G n_NoTime
 have m_NoRow:=qAH X G n_NoRow
 have m_NoRatio:=qAH X G n_NoRatio
 have m_NoName:=qAH X G n_NoName
 have m_NoHouse:=qAH X G n_NoHouse
 have m_NoEnd:=qAH X G n_NoEnd
 have m_NoCurve:=qAH X G n_NoCurve
 have m_Term:=qAH X G cf_Term.nm
 refine⟨PySem.W.fnOf "law" "law" (Ci HR) (A4 HR) (Ae HR) .none kV dc pm an cd ct,fun s v=>.of_eq rfl,fun base _ _=>⟨mg,?_⟩⟩
 have M:=@mkC l.prog w K mg base h X G
 have fk_text:∀c C,FJ c→rA K c C→Cls K C∧AS K C "text":=fun c C h1 h2=>by rcases h1 with rfl|rfl;(cases cf_Term.uniq h2;exact⟨cf_Term.cls,na_Tt⟩);(cases cf_WordTerm.uniq h2;exact⟨cf_WordTerm.cls,na_Wtext⟩)
 have fk_one:∀(c:Str) C,c="WordTerm"→rA K c C→Cls K C∧AS K C "one":=fun c C h1 h2=>by subst h1;cases cf_WordTerm.uniq h2;exact⟨cf_WordTerm.cls,na_Wone⟩
 have fk_other:∀(c:Str) C,c="WordTerm"→rA K c C→Cls K C∧AS K C "other":=fun c C h1 h2=>by subst h1;cases cf_WordTerm.uniq h2;exact⟨cf_WordTerm.cls,na_Wother⟩
 have ik_Term:∀(c:Str) b C,(FJ c∧b=true)→rA K c C→IsC K C K_Term b:=fun c b C h1 h2=>by obtain⟨h1,rfl⟩:=h1;rcases h1 with rfl|rfl;(cases cf_Term.uniq h2;exact cf_Term.isC ih_n ih_t kt_T);(cases cf_WordTerm.uniq h2;exact cf_WordTerm.isC ih_n ih_t kt_W)
 have mT:=qAH X G cf_Term.nm
 have mW:=qAH X G cf_WordTerm.nm
 have O_Term_names:=rm_Term_names.cal (P:=l.prog) (w:=w) (mg:=mg) (base:=base) cf_Term (by intro _ _ _ _ _ _ us hl;obtain⟨x0,rfl⟩:=HS hl;rfl) (fun F=>AJ.anyCX (KA fk_text F))
 have O_Term_shown:=rm_Term_shown.cal (P:=l.prog) (w:=w) (mg:=mg) (base:=base) cf_Term (by intro _ _ _ _ _ _ us hl;obtain⟨x0,rfl⟩:=HS hl;rfl) (fun F=>AJ.anyCX (IP fk_text F))
 have O_WordTerm_shown:=rm_WordTerm_shown.cal (P:=l.prog) (w:=w) (mg:=mg) (base:=base) cf_WordTerm (by intro _ _ _ _ _ _ us hl;obtain⟨x0,rfl⟩:=HS hl;rfl) (fun F=>AJ.anyCX (IP fk_text F))
 have O_WordTerm_names:=Hd (P:=l.prog) (w:=w) (mg:=mg) (base:=base) rm_WordTerm_names cf_WordTerm Bs JI fk_one fk_other O_Term_names 10
 obtain⟨fdT,FT⟩:=rm_Term_init.fn
 obtain⟨fdW,FW⟩:=rm_WordTerm_init.fn
 have N_Term:UH l.prog w K mg base 1 "Term" K_Term ["self","text"] (mk1 "text"):=⟨mT,cf_Term.nm,f_Ti,fdT,LB (Sd fk_text FT) ⟨_,.inl rfl,cf_Term.nm⟩,rm_Term_init.mk_ cf_Term,FT.binds (by intro _ _ _ _ _ _ us hl;obtain⟨x0,x1,rfl⟩:=MC hl;rfl)⟩
 have N_WordTerm:OC l.prog w K mg base 3 "WordTerm" K_WordTerm ["self","word","one","other"] (mkW "text" "word" "one" "other" mjW):=⟨mW,cf_WordTerm.nm,f_Wi,fdW,U2 fk_text O_Term_shown O_WordTerm_shown cf_WordTerm na_Wword na_Wone na_Wother mT ⟨cg_T,⟨_,cr_T,ci_T⟩,FT.kp⟩ FT FW,rm_WordTerm_init.mk_ cf_WordTerm,FW.binds (by intro _ _ _ _ _ _ us hl;obtain⟨x0,x1,x2,x3,rfl⟩:=OF hl;rfl)⟩
 have BR:=M r0 (fun F _=>Ft Aj HV ec_NoText m_NoText F)
 have Ai:=M r1 (fun F _=>AJ.anyCX (JU Mg Cd gc_LETTERS gc_LONGEST_NAME F))
 have Ab:=M r2 (fun F _=>EH ec_NoText m_NoText Ce F)
 have GU:=M r3 (fun F _=>AJ.anyCX (FZ F))
 have Hg:=M r3 (fun F _=>F4 ec_NoText m_NoText Ai Ab N_WordTerm gc_WORDS N_Term GU F)
 have HE:=M r3 (fun F _=>Fq ec_NoText m_NoText Ai Ab N_WordTerm gc_WORDS N_Term Hg F)
 have GK:=M r3 (fun F _=>FK ec_NoText m_NoText Ai Ab N_WordTerm gc_WORDS N_Term HE F)
 have GH:=M r3 (fun F _=>Ge ec_NoText m_NoText Ai Ab N_WordTerm gc_WORDS N_Term GK F)
 have Hq:=M r3 (fun F _=>Fo ec_NoText m_NoText Ai Ab N_WordTerm gc_WORDS N_Term GH F)
 have GN:=M r3 (fun F _=>Gu ec_NoText m_NoText Ai Ab N_WordTerm gc_WORDS N_Term Hq F)
 have HA:=M r3 (fun F _=>F0 ec_NoText m_NoText Ai Ab N_WordTerm gc_WORDS N_Term GN F)
 have HB:=M r3 (fun F _=>Gn ec_NoText m_NoText Ai Ab N_WordTerm gc_WORDS N_Term HA F)
 have GV:=M r3 (fun F _=>F7 ec_NoText m_NoText Ai Ab N_WordTerm gc_WORDS N_Term HB F)
 have Hy:=M r3 (fun F _=>FH ec_NoText m_NoText Ai Ab N_WordTerm gc_WORDS N_Term GV F)
 have Ah:=M r3 (fun F _=>EX ec_NoText m_NoText Ai Ab N_WordTerm gc_WORDS N_Term Hy F)
 have Bf:=M r4 (fun F _=>G9 BR Ah gc_DEEPEST F)
 have As:=M r5 (fun F _=>AJ.anyCX (Eg Cd F))
 have AW:=M r6 (fun F _=>AJ.anyCX (D6 B1 F))
 have AX:=M r7 (fun F _=>AJ.anyCX (Ed F))
 have BO:=M r8 (fun F _=>AJ.anyCX (Fz As B1 AW AX Bs M9 Ez MA F))
 have BB:=M r9 (fun F _=>AJ.anyCX (ET Cd B1 F))
 have Bq:=M r10 (fun F _=>AJ.anyCX (Es Cd BB F))
 have A9:=M r11 (fun F _=>AJ.anyCX (D8 Aj m_NoText Bf z_ValueError m_CurveError hn_CurveError mr_NoText_CurveError kT_NoText_ValueError xi_NoText kt_NoText_NoText m_NoWay kt_NoText_NoWay m_NoTime kt_NoText_NoTime m_NoRow kt_NoText_NoRow m_NoRatio kt_NoText_NoRatio m_NoName kt_NoText_NoName m_NoHouse kt_NoText_NoHouse m_NoEnd kt_NoText_NoEnd m_NoCurve kt_NoText_NoCurve F))
 have BQ:=M r12 (fun F _=>AJ.anyCX (F9 Aj HV Bf Ez O_Term_shown O_WordTerm_shown O_Term_names O_WordTerm_names ik_Term m_Term F))
 exact R0 As BO Bq A9 BQ (Ja (st:=HR) lL cL kL)
end CL
theorem PySem.Challenge.cw_curvehouse_k52_terms_holds : PySem.Challenge.rw_curvehouse_k52_terms.Holds := by
 exact(CL.front CL.lA) fun e1 e2 e3 e4 e5 fx=>L3.walk3 (l:=PySem.Challenge.rw_curvehouse_k52_terms) (k:=19) (x:="_law_script") rfl e1 ⟨rfl,∅,∅⟩ e2 e3 e4 fun w mg fa h X G hg=>CL.all_mk X G (e5 ▸ hg) (fx w)
