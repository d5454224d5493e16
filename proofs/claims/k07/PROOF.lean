import PyProof.Rows.All
import Wide.All
import OpenK.AllK
import Wide.FinOn
import Lean
import PyProof.EqAt
import PyProof.EqKinds
import PyProof.TupleCall
import PyProof.NeKinds
import PyProof.Rows.SortRunsK
import PyProof.Rows.SortShellK
import KE.KSortTup
import KE.KDictSum
import KE.KItemsList
import KE.KRevIter
import PyProof.ListNew
import PyProof.CollectIter
import PyProof.Rows.SetFrom
import KE.KDictLaws
import PyProof.SumAny
import PyProof.Rows.SumGenD
import OpenK.KOwn
import KE.KTryMore
import KE.KIsNot
import PyProof.LongRange
import PyProof.ZipIter
import PyProof.ListRange
import PyProof.AttrMissHeap
import PyProof.DictUpdate
import PyProof.FactsAll.dict_1
import PyProof.TupleIter
import PyProof.Rows.Range3
import PySem.Challenge.RW_tilechain_k07_whole_fewest_rows
set_option Elab.async false
set_option linter.all false
set_option maxRecDepth 100000
set_option maxHeartbeats 4000000
open List (filterMap_cons lookup_cons mem_filter mem_range mem_cons_self mem_cons_of_mem mem_cons mem_append mem_append_left mem_filterMap mem_append_right append_nil nodup_cons of_mem_zip length_take getElem?_append_right getElem?_append_left getElem?_map mem_of_getElem? length_append length_map map_nil map_cons length_drop size_toArray all_cons any_cons length_singleton find?_cons length_cons length_nil getD_eq_getElem?_getD foldl_cons getElem?_eq_getElem pairwise_append append_assoc drop_eq_getElem_cons take_of_length_le pairwise_iff_getElem take_append_drop drop_drop take_add_one mem_reverse reverse_perm nil_append ext_getElem? getElem?_drop getElem?_of_mem map_snd_zip getElem_map pairwise_map mem_map pairwise_cons getElem?_take getElem_mem map_append nodup_append mem_singleton not_mem_nil nodup_nil eq_nil_of_length_eq_zero length_range getElem?_eq_none getElem?_range mem_iff_getElem? map_map mem_flatMap flatMap_append flatMap_cons length_pos_of_mem find?_eq_none count_eq_zero_of_not_mem find?_some mem_of_find?_eq_some count_append any_eq_true map_congr_left map_id filter_append filter_cons length_filter_le filter_eq_nil_iff mem_flatten flatten_append flatten_cons getLast?_cons_cons count_cons sum_cons count_pos_iff nodup_range take_length filter_congr map_reverse range_succ eq_nil_or_concat)
namespace L2
open PySem PySem.Spec PyProof.Rows
def defArgs (s:Stmt):Arguments:=match s with
 | .FunctionDef _ a _ _ _ _ _ _ _ _=>a
 | _=>{ posonlyargs:=[],args:=[],vararg:=none,kwonlyargs:=[],kw_defaults:=[],kwarg:=none,defaults:=[] }
def defBody (s:Stmt):List Stmt:=match s with
 | .FunctionDef _ _ b _ _ _ _ _ _ _=>b
 | _=>[]
def defScope (s:Stmt):Scope:=match s with
 | .FunctionDef _ _ _ _ _ _ sc _ _ _=>sc
 | _=>{ kind:=.function,names:=[],isGenerator:=false,isCoroutine:=false }
def DI (K:PySem.W.Frag)(x:Str)(st:Stmt):Prop:=∃ (f:Addr) (od an:Option Addr) (sl:Array (Option Value)) (oc kV dc pm cd ct:Value),PySem.W.nsIn K mainGlobals x=some (some (.ref f))∧K.lookup f=some ⟨oc,od,.func (PySem.W.fnOf x x (defArgs st) (defBody st) (defScope st) .none kV dc pm an cd ct),sl⟩∧PySem.W.codeIn K cd x=true∧PySem.W.keepIn K (.ref f)=true
def defPos (s:Stmt):Pos:=match s with
 | .FunctionDef _ _ _ _ _ _ _ _ _ p=>p
 | _=>⟨0,0,0,0⟩
def uz (n:Nat)(h:Heap):PySem.W.Frag:=(List.range n).filterMap fun a=>(h.get? a).map fun o=>(a,o)
theorem rX (n:Nat)(h:Heap):(uz n h).In h:=by
 suffices H:∀ (l:List Nat) (a:Addr) (o:Obj),(l.filterMap fun a=>(h.get? a).map fun o=>(a,o)).lookup a=some o→h.get? a=some o from fun a o e=>H _ a o e
 intro l
 induction l with
 | nil=>intro a o e;cases e
 | cons b l ih =>
   intro a o e
   rw[filterMap_cons] at e
   cases q:h.get? b with
   | none=>rw[q] at e;exact ih a o e
   | some v =>
     rw[q] at e
     simp only[Option.map_some,lookup_cons] at e
     split at e
     ·next z=>rw[beq_iff_eq.mp z,q];exact e
     ·exact ih a o e
def look (K:PySem.W.Frag)(x:Str):Option (FuncData×Bool×Bool):=match PySem.W.nsIn K mainGlobals x with
 | some (some (.ref f))=>(match K.lookup f with
   | some ⟨_,_,.func fd,_⟩=>some ({ fd with kwdefaults:=.none,doc:=.none,pyModule:=.none,annotations:=none,code:=.none,closureTuple:=.none },PySem.W.codeIn K fd.code x,PySem.W.keepIn K (.ref f))
   | _=>none)
 | _=>none
def nQ (x:Str)(st:Stmt):Option (FuncData×Bool×Bool):=some (PySem.W.fnOf x x (defArgs st) (defBody st) (defScope st) .none .none .none .none none .none .none,true,true)
theorem rO {K:PySem.W.Frag}{x:Str}{st:Stmt}(h:look K x=nQ x st):DI K x st:=by
 unfold look nQ at h
 split at h
 ·next f hf =>
  split at h
  ·next oc od fd sl hl =>
   have h:=Option.some.inj h
   have e:=congrArg Prod.fst h
   have e2:=congrArg (fun t=>t.2.1) h
   have e3:=congrArg (fun t=>t.2.2) h
   dsimp only at e e2 e3
   refine⟨f,od,fd.annotations,sl,oc,fd.kwdefaults,fd.doc,fd.pyModule,fd.code,fd.closureTuple,hf,hl.trans ?_,e2,e3⟩
   cases fd
   dsimp only at e ⊢
   simp only[FuncData.mk.injEq] at e
   obtain⟨rfl,rfl,rfl,rfl,rfl,rfl,rfl,rfl,-,-,-,-,-,-,rfl⟩:=e
   rfl
  ·cases h
 ·cases h
def qZ (K:PySem.W.Frag):List (Str×Stmt)→Prop
 | []=>True
 | p :: l=>DI K p.1 p.2∧qZ K l
theorem mm {K:PySem.W.Frag}:∀ {l:List (Str×Stmt)},l.map (fun p=>look K p.1)=l.map (fun p=>nQ p.1 p.2)→qZ K l
 | [],_=>True.intro
 | _ :: _,h=>⟨rO (List.cons.inj h).1,mm (List.cons.inj h).2⟩
def t4 (K:PySem.W.Frag):List Str→Prop
 | []=>True
 | x :: l=>PySem.W.nsIn K mainGlobals x=some none∧t4 K l
theorem om {K:PySem.W.Frag}:∀ {l:List Str},l.map (PySem.W.nsIn K mainGlobals)=l.map (fun _=>some none)→t4 K l
 | [],_=>True.intro
 | _ :: _,h=>⟨(List.cons.inj h).1,om (List.cons.inj h).2⟩
def t5 (K:PySem.W.Frag):List (Value×Value×Bool)→Prop
 | []=>True
 | p :: l=>PySem.W.kitOne K p.1 p.2.1=some p.2.2∧t5 K l
theorem oo {K:PySem.W.Frag}:∀ {l:List (Value×Value×Bool)},l.map (fun p=>PySem.W.kitOne K p.1 p.2.1)=l.map (fun p=>some p.2.2)→t5 K l
 | [],_=>True.intro
 | _ :: _,h=>⟨(List.cons.inj h).1,oo (List.cons.inj h).2⟩
def Told (ds:List (Str×Stmt))(zs:List Str)(qs:List (Value×Value×Bool))(K:PySem.W.Frag):Prop:=qZ K ds∧t4 K zs∧t5 K qs
def hk (n:Nat)(ds:List (Str×Stmt))(zs:List Str)(qs:List (Value×Value×Bool)):PySem.W.Hook where
 α:=List (Option (FuncData×Bool×Bool))×List (Option (Option Value))×List (Option Bool)
 obs s:=(fun K=>(ds.map fun p=>look K p.1,zs.map (PySem.W.nsIn K mainGlobals),qs.map fun p=>PySem.W.kitOne K p.1 p.2.1)) (uz n s.heap)
 val _:=(ds.map fun p=>nQ p.1 p.2,zs.map fun _=>some none,qs.map fun p=>some p.2.2)
 says _ h:=∃ K:PySem.W.Frag,K.In h∧Told ds zs qs K
 of w s e:=⟨_,rX n s.heap,mm (congrArg Prod.fst e),om (congrArg (fun t=>t.2.1) e),oo (congrArg (fun t=>t.2.2) e)⟩
 keeps w h h':=fun⟨K,X,f⟩ k=>⟨K,X.keeps k,f⟩
theorem both {α β γ:Type}{o:Option α}{f:α→β}{g:α→γ}{b:β}{c:γ}(h:o.map f=some b)(k:o.map g=some c):o.map (fun s=>(f s,g s))=some (b,c):=by
 cases o with
 | none=>cases h
 | some a =>
   have h1:=Option.some.inj h
   have k1:=Option.some.inj k
   subst h1
   subst k1
   rfl
section
open PySem.W PySem.Calls
theorem rR {p q:Program}{loose:List Str}{Xt:Shared→Bool}{α:Type}{Yf:Shared→α}{Ya:World→α}{N:Nat}
 (e:opening p=plainProg p.main.scope.names) (hN:Nat.ble 600 N=true) (f:∀ s,fenceModules? p s=some s)
 (h:∀ (w:World) (os:OsState),(topFrom treeTable p w N ⟨boot_heap w.params,#[],boot_drawn,boot_toks,os⟩).map (fun s=>(openSeen q loose (importedModules p.main.body) Xt true s,Yf s))=some (openGood q loose,Ya w)) :
 LeftO p q loose Xt Yf Ya N true:=fun w=>by
 obtain⟨⟨a,b,c,d,os⟩,e1,e2⟩:=Option.map_eq_some_iff.mp (boot_open e hN f w)
 obtain⟨rfl,rfl,rfl,rfl⟩:a=boot_heap w.params∧b=#[]∧c=boot_drawn∧d=boot_toks:=by simpa using e2
 unfold openEnds
 rw[e1]
 exact h w os
end
end L2
namespace Tk07
open PySem L2 PySem.W PyProof.Rows PySem.Calls
def top (i:Nat):Stmt:=PySem.Challenge.pw_tilechain_k07_whole_fewest_rows.main.body.getD i (.Pass ⟨0,0,0,0⟩)
abbrev fJ:Stmt:=top 1
abbrev cu:Stmt:=top 2
abbrev cV:Stmt:=top 3
abbrev dy:Stmt:=top 4
abbrev dA:Stmt:=top 9
abbrev gM:Stmt:=top 10
abbrev cw:Stmt:=top 12
abbrev bJ:Stmt:=top 13
abbrev cU:Stmt:=top 14
abbrev cT:Stmt:=top 15
abbrev cM:Stmt:=top 17
abbrev bd:Stmt:=top 18
abbrev bn:Stmt:=top 19
abbrev fI:Stmt:=top 20
abbrev cY:Stmt:=top 22
abbrev eQ:Stmt:=top 23
abbrev bV:Stmt:=top 24
abbrev cX:Stmt:=top 25
abbrev fF:Stmt:=top 26
abbrev dk:Stmt:=top 27
abbrev dj:Stmt:=top 28
abbrev cG:Stmt:=top 29
abbrev cW:Stmt:=top 30
abbrev cO:Stmt:=top 31
abbrev dY:Stmt:=top 32
abbrev fG:Stmt:=top 33
abbrev dz:Stmt:=top 34
abbrev fH:Stmt:=top 35
abbrev cN:Stmt:=top 36
abbrev s_law:Stmt:=top 37
def q:Program:=view PySem.Challenge.pw_tilechain_k07_whole_fewest_rows [1,2,3,4,6,7,9,10,12,13,14,15,17,18,19,20,22,23,24,25,26,27,28,29,30,31,32,33,34,35,36,37]
def Xt (s:Shared):Bool:=xlAt q [] s && recOk (RowW.records (OpenRow.toRowW PySem.Challenge.rw_tilechain_k07_whole_fewest_rows.row)) s
def ds:List (Str×Stmt):=("counts",fJ) :: ("neighbours",cu) :: ("part_with",cV) :: ("parts_of",dy) :: ("has_tile",dA) :: ("faces",gM) :: ("free_steps",cw) :: ("by_left_mark",bJ) :: ("take_step",cU) :: ("walk_from",cT) :: ("row_ends",cM) :: ("joints_between",bd) :: ("split_at_joints",bn) :: ("fewest",fI) :: ("_law_cell_at",cY) :: ("_law_whole",eQ) :: ("_law_names",bV) :: ("_law_numbers",cX) :: ("_law_tile",fF) :: ("_law_order",dk) :: ("_law_tiles",dj) :: ("_law_marks",cG) :: ("_law_reached",cW) :: ("_law_groups",cO) :: ("_law_odds",dY) :: ("_law_step",fG) :: ("_law_walked",dz) :: ("_law_rows",fH) :: ("_law_wanted",cN) :: ("law",s_law) :: []
def zs:List Str:=["len","list","int","bool","tuple","str","sum","sorted","max","isinstance","enumerate","set","range","reversed","zip","ValueError","dict"]
def qs:List (Value×Value×Bool):=[(.type "int",.type "int",true),(.type "int",.type "bool",false),(.type "bool",.type "bool",true),(.type "list",.type "list",true),(.type "tuple",.type "tuple",true),(.type "str",.type "str",true)]
def hk:Hook:=L2.hk 232 ds zs qs
theorem uR (w:World)(os:OsState):(topFrom treeTable PySem.Challenge.pw_tilechain_k07_whole_fewest_rows w 2878 ⟨boot_heap w.params,#[],boot_drawn,boot_toks,os⟩).map (fun s=>openSeen q [] (importedModules PySem.Challenge.pw_tilechain_k07_whole_fewest_rows.main.body) Xt true s)=some (openGood q []):=by kernel_rfl
theorem uQ (w:World)(os:OsState):(topFrom treeTable PySem.Challenge.pw_tilechain_k07_whole_fewest_rows w 2878 ⟨boot_heap w.params,#[],boot_drawn,boot_toks,os⟩).map (fun s=>hk.obs s)=some (hk.val w):=by kernel_rfl
theorem run (w:World)(os:OsState):(topFrom treeTable PySem.Challenge.pw_tilechain_k07_whole_fewest_rows w 2878 ⟨boot_heap w.params,#[],boot_drawn,boot_toks,os⟩).map (fun s=>(openSeen q [] (importedModules PySem.Challenge.pw_tilechain_k07_whole_fewest_rows.main.body) Xt true s,hk.obs s))=some (openGood q [],hk.val w):=L2.both (uR w os) (uQ w os)
theorem left:LeftO PySem.Challenge.pw_tilechain_k07_whole_fewest_rows q [] Xt hk.obs hk.val 2878 true:=rR (by kernel_rfl) (by kernel_rfl) (fun _=>by kernel_rfl) run
theorem said:PySem.Challenge.rw_tilechain_k07_whole_fewest_rows.wellSaid=true:=by kernel_rfl
theorem fits:(chainsOk q && opensWell PySem.Challenge.pw_tilechain_k07_whole_fewest_rows && (frees PySem.Challenge.rw_tilechain_k07_whole_fewest_rows.row.toRowW && PySem.Challenge.rw_tilechain_k07_whole_fewest_rows.row.within.isEmpty))=true:=by kernel_rfl
end Tk07
namespace L2
open PySem PySem.Spec PyProof.Rows
abbrev Key:=Sum Int Str
def jv:Key→Value→Bool
 | .inl k,v=>Value.isInt k v
 | .inr x,v=>Value.isStrOf x v
def u4 (w:World):Key→Int
 | .inl k=>hashInt k
 | .inr x=>hashStr w x
theorem a8:∀ {k:Key} {v:Value},jv k v=true→(∃ i t,k=Sum.inl i∧v=Value.int i t)∨(∃ x t,k=Sum.inr x∧v=Value.str x t)
 | .inl i,v,h=>by
   obtain⟨t,e⟩:=Value.isInt_shape (k:=i) (v:=v) h
   exact .inl ⟨i,t,rfl,e⟩
 | .inr x,v,h=>by
   obtain⟨t,e⟩:=Value.isStrOf_shape (x:=x) (v:=v) h
   exact .inr ⟨x,t,rfl,e⟩
theorem o5 (i:Int)(t:Tok):jv (.inl i) (.int i t)=true:=by simp[jv,Value.isInt]
theorem o0 (x:Str)(t:Tok):jv (.inr x) (.str x t)=true:=by simp[jv,Value.isStrOf]
theorem tJ (a b:Int):decide ((Sum.inl a:Key)=Sum.inl b)=(a == b):=by
 by_cases e:a=b
 ·subst e;simp
 ·have h:¬ (Sum.inl a:Key)=Sum.inl b:=fun q=>e (Sum.inl.inj q)
  rw[decide_eq_false h]
  exact (beq_eq_false_iff_ne.mpr e).symm
theorem tG (a b:Str):decide ((Sum.inr a:Key)=Sum.inr b)=decide (a=b):=by
 by_cases e:a=b
 ·subst e;simp
 ·have h:¬ (Sum.inr a:Key)=Sum.inr b:=fun q=>e (Sum.inr.inj q)
  rw[decide_eq_false h,decide_eq_false e]
theorem tI (a:Int)(b:Str):decide ((Sum.inl a:Key)=Sum.inr b)=false:=decide_eq_false (fun q=>nomatch q)
theorem tH (a:Str)(b:Int):decide ((Sum.inr a:Key)=Sum.inl b)=false:=decide_eq_false (fun q=>nomatch q)
def aO (prog:Program)(w:World):PySem.KeyKind prog w Key where
 is:=jv
 hash:=u4 w
 inj:=fun v a b ha hb=>by
  rcases a8 ha with⟨i,t,rfl,rfl⟩ | ⟨x,t,rfl,rfl⟩
  ·rcases a8 hb with⟨j,u,rfl,e⟩ | ⟨y,u,rfl,e⟩
   ·injection e with e1 _;rw[e1]
   ·exact nomatch e
  ·rcases a8 hb with⟨j,u,rfl,e⟩ | ⟨y,u,rfl,e⟩
   ·exact nomatch e
   ·injection e with e1 _;rw[e1]
 byValue:=fun k v h=>by
  rcases a8 h with⟨i,t,rfl,rfl⟩ | ⟨x,t,rfl,rfl⟩ <;> rfl
 pyHash:=fun hv h=>by
  rcases a8 hv with⟨i,t,rfl,rfl⟩ | ⟨x,t,rfl,rfl⟩
  ·exact wpAny_pyHash_int h
  ·exact wpAny_pyHash_str h
 eqBool:=fun hu hv h=>by
  rcases a8 hu with⟨i,t,rfl,rfl⟩ | ⟨x,t,rfl,rfl⟩
  ·rcases a8 hv with⟨j,u,rfl,rfl⟩ | ⟨y,u,rfl,rfl⟩
   ·rw[tJ] at h;exact wpAny_eqBool_int h
   ·rw[tI] at h;exact SeqAt.EqAt.int_str i t y u _ _ _ _ h
  ·rcases a8 hv with⟨j,u,rfl,rfl⟩ | ⟨y,u,rfl,rfl⟩
   ·rw[tH] at h;exact SeqAt.EqAt.str_int x t j u _ _ _ _ h
   ·rw[tG] at h;exact wpAny_eqBool_str h
 «strs»:=fun k x t v h=>by
  rcases a8 h with⟨i,u,rfl,e⟩ | ⟨y,u,rfl,e⟩
  ·exact nomatch e
  ·injection e with e1 _
   subst e1
   cases v <;> rfl
theorem lK (prog:Program)(w:World)(i:Int)(t:Tok):(aO prog w).is (.inl i) (.int i t)=true:=o5 i t
theorem lJ (prog:Program)(w:World)(x:Str)(t:Tok):(aO prog w).is (.inr x) (.str x t)=true:=o0 x t
end L2
namespace L2
open PySem PySem.Spec PyProof.Rows
inductive V where
 | non | bl (b:Bool) | int (i:Int) | str (x:Str) | byt (b:Array UInt8) | flt (b:UInt64) | ref (a:Addr) | ty (n:String)
 deriving DecidableEq
def az:V→Value→Prop
 | .non,u=>u=Value.none
 | .bl b,u=>u=Value.bool b
 | .int i,u=>∃ t,u=Value.int i t
 | .str x,u=>∃ t,u=Value.str x t
 | .byt b,u=>∃ t,u=Value.bytes b t
 | .flt b,u=>∃ t,u=Value.float b t
 | .ref a,u=>u=Value.ref a
 | .ty n,u=>u=Value.type n
abbrev aB:List V→List Value→Prop:=Paired az
theorem aB.length {xs:List V}{us:List Value}(r:aB xs us):xs.length=us.length:=Paired.length r
theorem aB.get:∀ {xs:List V} {us:List Value} {i:Nat} {x:V},aB xs us→xs[i]? = some x→∃ u,us[i]? = some u∧az x u
 | _,_,_,_,.nil,e=>by simp at e
 | _,_,0,_,.cons r _,e=>by simp at e;subst e;exact⟨_,rfl,r⟩
 | _,_,i+1,x,.cons _ t,e=>by
   obtain⟨u,h1,h2⟩:=aB.get (i:=i) (x:=x) t (by simpa using e)
   exact⟨u,by simpa using h1,h2⟩
theorem aB.append:∀ {xs ys:List V} {us ws:List Value},aB xs us→aB ys ws→aB (xs++ys) (us++ws)
 | _,_,_,_,.nil,s=>s
 | _,_,_,_,.cons r t,s=>.cons r (aB.append t s)
theorem aB.take:∀ {xs:List V} {us:List Value} (n:Nat),aB xs us→aB (xs.take n) (us.take n)
 | _,_,0,_=>.nil
 | _,_,_+1,.nil=>.nil
 | _,_,n+1,.cons r t=>.cons r (aB.take n t)
theorem aB.drop:∀ {xs:List V} {us:List Value} (n:Nat),aB xs us→aB (xs.drop n) (us.drop n)
 | _,_,0,r=>r
 | _,_,_+1,.nil=>.nil
 | _,_,n+1,.cons _ t=>aB.drop n t
def gq:Option V→Option Value→Prop
 | some v,some u=>az v u
 | none,none=>True
 | _,_=>False
def KV {κ:Type}:List (κ×V)→List (κ×Value)→Prop:=Paired fun (p:κ×V) (q:κ×Value)=>p.1=q.1∧az p.2 q.2
def kV:Key→V
 | .inl i=>.int i
 | .inr x=>.str x
inductive HO where
 | lst (xs:List V)
 | tup (xs:List V)
 | dK (kvs:List (Key×V)) | dT (kvs:List (List Key×V))
 | set (S:Int→Bool) (n:Nat)
 | ins (C dx:Addr) (fs:List (Str×V))
 | own (x:Addr)
 | xd (fs:List (Str×V))
 | met (f x:Addr)
 | rng (lo hi:Int)
 | frz (o:Obj) (u:HO)
 | tbl (ps:Array Value)
 | ext (φ:Heap→Prop)
abbrev Hp:=Addr→Option HO
def upd (H:Hp)(a:Addr)(o:HO):Hp:=fun b=>if b=a then some o else H b
theorem dX {H:Hp}{a:Addr}{o:HO}:upd H a o a=some o:=by unfold upd;rw[if_pos rfl]
theorem aP {H:Hp}{a b:Addr}{o:HO}(h:b≠a):upd H a o b=H b:=by unfold upd;rw[if_neg h]
theorem bz {H:Hp}{a b:Addr}{o u:HO}(h:H a=some o)(h':H b=some u)(d:o≠u):a≠b:=by
 intro e;subst e;rw[h] at h';exact d (Option.some.inj h')
theorem aQ {H:Hp}{a b:Addr}{o:HO}(h:H a=some o)(h':H b=none):a≠b:=by
 intro e;subst e;rw[h] at h';cases h'
section
variable (P:Program)(w:World)
def aS (H:Hp)(h:Heap)(a:Addr):HO→Prop
 | .lst xs=>xs.length≤sizeLine∧∃ (its:List Value) (n:Nat),aB xs its∧h.get? a=some { cls:=.type "list",data:=.seq its.toArray n }
 | .tup xs=>xs.length≤sizeLine∧∃ its:List Value,aB xs its∧IsTup h a its.toArray
 | .dK kvs=>kvs.length≤sizeLine∧(a == sysModules)=false∧∃ vs,KV kvs vs∧h.DictOf (aO P w) a vs
 | .dT kvs=>kvs.length≤sizeLine∧(a == sysModules)=false∧∃ xs:List (List Key×Addr×Value),
  Paired (fun (p:List Key×V) (q:List Key×Addr×Value)=>p.1=q.1∧H q.2.1=some (.tup (p.1.map kV))∧az p.2 q.2.2) kvs xs ∧
  ∃ o es ep,h.get? a=some o∧o.ExactDict∧o.data=.dict es ep∧es.toList=xs.map (entryOfKey (tupleKind (aO P w)))∧(xs.map (·.1)).Nodup
 | .set S n=>h.SetOf (intKind P w) a S n
 | .ins C dx fs=>H dx=some (.own a)∧fs.length≤1000∧dx≠a∧h.get? a=some (PySem.W.instObj C dx) ∧
  ∃ mA,h.Ns1 dx mA∧(∀ f,gq (fs.lookup f) (mA f))∧PySem.Within mA (fs.map (·.1))
 | .own _=>∃ o,h.get? a=some o
 | .xd fs=>∃ mA,h.Ns1 a mA∧∀ f,gq (fs.lookup f) (mA f)
 | .rng lo hi=>∃ t u v,h.get? a=some { cls:=.type "range",data:=.fields #[.int lo t,.int hi u,.int 1 v] }
 | .frz o u=>h.get? a=some o∧aS H h a u
 | .tbl ps=>h.get? a=some { cls:=.none,data:=.fields ps }
 | .met f x=>h.get? a=some (PySem.W.methodObj (.ref f) (.ref x))
 | .ext φ=>φ h∧(∃ o,h.get? a=some o)∧∀ h1 h2:Heap,φ h1→(∀ o,h1.get? a=some o→h2.get? a=some o)→φ h2
def HOk (H:Hp)(h:Heap):Prop:=∀ a o,H a=some o→aS P w H h a o
end
section
variable {P:Program}{w:World}{H H':Hp}{h h':Heap}{a:Addr}{o:HO}
theorem aS.lt (x:aS P w H h a o):a<h.objs.size:=by
 cases o with
 | lst xs=>obtain⟨_,_,_,_,e⟩:=x;exact Heap.lt_size e
 | tup xs=>obtain⟨_,_,_,p⟩:=x;exact p.lt
 | dK kvs=>obtain⟨_,_,_,_,o,_,_,e,_⟩:=x;exact Heap.lt_size e
 | dT kvs=>obtain⟨_,_,_,_,o,_,_,e,_⟩:=x;exact Heap.lt_size e
 | set S n=>obtain⟨o,_,_,_,e,_⟩:=x;exact Heap.lt_size e
 | ins C dx fs=>obtain⟨_,_,_,e,_⟩:=x;exact Heap.lt_size e
 | own y=>obtain⟨_,e⟩:=x;exact Heap.lt_size e
 | xd fs=>obtain⟨_,⟨_,_,_,e,_⟩,_⟩:=x;exact Heap.lt_size e
 | rng lo hi=>obtain⟨_,_,_,e⟩:=x;exact Heap.lt_size e
 | frz ob u=>obtain⟨e,_⟩:=x;exact Heap.lt_size e
 | tbl ps=>exact Heap.lt_size (show h.get? a=some _ from x)
 | met f y=>exact Heap.lt_size (show h.get? a=some _ from x)
 | ext φ=>obtain⟨_,⟨_,e⟩,_⟩:=x;exact Heap.lt_size e
theorem Paired.mapP {α β:Type}{F G:α→β→Prop}:∀ {l₁:List α} {l₂:List β},Paired F l₁ l₂→(∀ a b,F a b→G a b)→Paired G l₁ l₂
 | _,_,.nil,_=>.nil
 | _,_,.cons r t,f=>.cons (f _ _ r) (Paired.mapP t f)
theorem aS.stay (x:aS P w H h a o)(k:∀ b u,(b=a∨H b=some (.own a))→h.get? b=some u→h'.get? b=some u)
 (ho:∀ b,H b=some (.own a)→H' b=some (.own a)) (ht:∀ b xs,H b=some (.tup xs)→H' b=some (.tup xs)):aS P w H' h' a o:=by
 induction o with
 | lst xs=>obtain⟨z,its,n,r,e⟩:=x;exact⟨z,its,n,r,k _ _ (.inl rfl) e⟩
 | tup xs=>obtain⟨z,its,r,ob,e,c⟩:=x;exact⟨z,its,r,ob,k _ _ (.inl rfl) e,c⟩
 | dK kvs=>obtain⟨z,y,vs,r,ob,es,ep,e,c⟩:=x;exact⟨z,y,vs,r,ob,es,ep,k _ _ (.inl rfl) e,c⟩
 | dT kvs =>
   obtain⟨z,y,xs,r,ob,es,ep,e,c⟩:=x
   exact⟨z,y,xs,Paired.mapP r fun p q z=>⟨z.1,ht _ _ z.2.1,z.2.2⟩,ob,es,ep,k _ _ (.inl rfl) e,c⟩
 | set S n=>obtain⟨ob,es,ep,t,e,c⟩:=x;exact⟨ob,es,ep,t,k _ _ (.inl rfl) e,c⟩
 | ins C dx fs =>
   obtain⟨d,z,ne,e,mA,⟨od,es,ep,e2,c⟩,r⟩:=x
   exact⟨ho _ d,z,ne,k _ _ (.inl rfl) e,mA,⟨od,es,ep,k _ _ (.inr d) e2,c⟩,r⟩
 | own y=>obtain⟨ob,e⟩:=x;exact⟨ob,k _ _ (.inl rfl) e⟩
 | xd fs=>obtain⟨mA,⟨od,es,ep,e,c⟩,r⟩:=x;exact⟨mA,⟨od,es,ep,k _ _ (.inl rfl) e,c⟩,r⟩
 | rng lo hi=>obtain⟨t,u,v,e⟩:=x;exact⟨t,u,v,k _ _ (.inl rfl) e⟩
 | frz ob u ih=>obtain⟨e,q⟩:=x;exact⟨k _ _ (.inl rfl) e,ih q⟩
 | tbl ps =>
   have e:h.get? a=some { cls:=.none,data:=.fields ps }:=x
   show h'.get? a=some { cls:=.none,data:=.fields ps }
   exact k a _ (.inl rfl) e
 | met f y =>
   have e:h.get? a=some (PySem.W.methodObj (.ref f) (.ref y)):=x
   show h'.get? a=some (PySem.W.methodObj (.ref f) (.ref y))
   exact k a _ (.inl rfl) e
 | ext φ=>obtain⟨p,⟨o,e⟩,st⟩:=x;exact⟨st _ _ p fun o q=>k _ _ (.inl rfl) q,⟨o,k _ _ (.inl rfl) e⟩,st⟩
theorem HOk.lt (x:HOk P w H h)(e:H a=some o):a<h.objs.size:=(x a o e).lt
theorem HOk.fresh (x:HOk P w H h)(e:h.objs.size≤a):H a=none:=by
 cases q:H a with
 | none=>rfl
 | some u=>exact absurd (Nat.lt_of_lt_of_le (x.lt q) e) (Nat.lt_irrefl _)
theorem HOk.kept (x:HOk P w H h)(k:∀ b u,h.get? b=some u→h'.get? b=some u):HOk P w H h':=fun a o e =>
 (x a o e).stay (fun b u _ q=>k b u q) (fun _ q=>q) fun _ _ q=>q
theorem HOk.laid (x:HOk P w H h)(k:∀ b u,h.get? b=some u→h'.get? b=some u)(hp:h.objs.size≤a)(new:aS P w (upd H a o) h' a o):HOk P w (upd H a o) h':=fun b u e=>by
 have hn:=x.fresh hp
 by_cases hb:b=a
 ·subst hb;rw[dX] at e;cases e;exact new
 ·rw[aP hb] at e
  exact (x b u e).stay (fun c v _ q=>k c v q) (fun c q=>by rw[aP (aQ q hn)];exact q) fun c xs q=>by rw[aP (aQ q hn)];exact q
end
def Rd (H:Hp)(a:Addr)(u:HO):Prop:=H a=some u∨∃ o,H a=some (.frz o u)
theorem Rd.ok {P:Program}{w:World}{H:Hp}{h:Heap}{a:Addr}{u:HO}(r:Rd H a u)(x:HOk P w H h):aS P w H h a u:=by
 rcases r with r | ⟨o,r⟩
 ·exact x a u r
 ·obtain⟨_,q⟩:=x a _ r
  exact q
def Mut:Option HO→Prop
 | some (.lst _)=>True
 | some (.dK _)=>True
 | some (.dT _)=>True
 | some (.set _ _)=>True
 | some (.ins _ _ _)=>True
 | some (.ext _)=>True
 | _=>False
section
variable {P:Program}{w:World}{H:Hp}{h h':Heap}{x e:Addr}{o':HO}
theorem HOk.write (ok:HOk P w H h)(mu:Mut (H x))(he:e=x∨H e=some (.own x))(k:∀ b u,b≠e→h.get? b=some u→h'.get? b=some u)(heo:∃ u,h'.get? e=some u)
 (new:aS P w (upd H x o') h' x o'):HOk P w (upd H x o') h':=fun b u q=>by
 have nown:∀ c y,H c=some (.own y)→c≠x:=fun c y r z=>by subst z;rw[r] at mu;exact mu
 have ntup:∀ c xs,H c=some (.tup xs)→c≠x:=fun c xs r z=>by subst z;rw[r] at mu;exact mu
 by_cases hb:b=x
 ·subst hb;rw[dX] at q;cases q;exact new
 ·rw[aP hb] at q
  by_cases hbe:b=e
  ·have q':H b=some (.own x):=by
    rcases he with z | z
    ·exact absurd (hbe.trans z) hb
    ·rw[hbe];exact z
   rw[q] at q';cases q'
   obtain⟨v,hv⟩:=heo
   exact⟨v,by rw[hbe];exact hv⟩
  ·refine (ok b u q).stay (fun c v hc r=>k c v ?_ r) (fun c r=>by rw[aP (nown c b r)];exact r) fun c xs r=>by rw[aP (ntup c xs r)];exact r
   rcases hc with rfl | hc
   ·exact hbe
   ·rintro rfl
    rcases he with z | z
    ·exact nown c b hc z
    ·rw[hc] at z;cases z;exact hb rfl
end
structure Un (fs ex:List Addr)(H H':Hp)(h h':Heap):Prop where
 keep:∀ b o,h.get? b=some o→H b=none→b∉fs→b∉ex→h'.get? b=some o
 slot:∀ b o,h.get? b=some o→H b=none→b∈fs→b∉ex→∃ sl,h'.get? b=some { o with slots:=sl }
 free:∀ b o,h.get? b=some o→H b=none→b∉ex→H' b=none
 there:∀ b o,h.get? b=some o→b∉ex→∃ o',h'.get? b=some o'
 tups:∀ b xs,H b=some (.tup xs)→H' b=some (.tup xs)
 frzs:∀ b o u,H b=some (.frz o u)→H' b=some (.frz o u)
 tbls:∀ b ps,H b=some (.tbl ps)→∃ more,H' b=some (.tbl (ps++more))
section
variable {fs fs' ex ex':List Addr}{H H1 H2:Hp}{h h1 h2 h':Heap}{a x e:Addr}{o:HO}
theorem Un.any (u:Un fs ex H H1 h h1){b:Addr}{ob:Obj}(q:h.get? b=some ob)(n:H b=none)(hx:b∉ex):∃ sl,h1.get? b=some { ob with slots:=sl }:=by
 by_cases hb:b∈fs
 ·exact u.slot b ob q n hb hx
 ·exact⟨ob.slots,u.keep b ob q n hb hx⟩
theorem Un.kept (k:∀ b u,h.get? b=some u→h'.get? b=some u):Un fs ex H H h h' :=
 ⟨fun b ob q _ _ _=>k b ob q,fun b ob q _ _ _=>⟨ob.slots,k b ob q⟩,fun _ _ _ n _=>n,fun b ob q _=>⟨ob,k b ob q⟩,fun _ _ q=>q,fun _ _ _ q=>q,fun _ ps q=>⟨#[],by rw[q];simp⟩⟩
theorem Un.refl:Un fs ex H H h h:=Un.kept fun _ _ q=>q
theorem Un.laid (k:∀ b u,h.get? b=some u→h'.get? b=some u)(hp:h.objs.size≤a)(hn:H a=none):Un fs ex H (upd H a o) h h' where
 keep:=fun b u q _ _ _=>k b u q
 slot:=fun b u q _ _ _=>⟨u.slots,k b u q⟩
 free:=fun b u q n _=>by rw[aP (Nat.ne_of_lt (Nat.lt_of_lt_of_le (Heap.lt_size q) hp))];exact n
 there:=fun b u q _=>⟨u,k b u q⟩
 tups:=fun b xs q=>by rw[aP (aQ q hn)];exact q
 frzs:=fun b u xs q=>by rw[aP (aQ q hn)];exact q
 tbls:=fun b ps q=>⟨#[],by rw[aP (aQ q hn),q];simp⟩
theorem Un.write (mu:Mut (H x))(he:e=x∨H e=some (.own x))(k:∀ b u,b≠e→h.get? b=some u→h'.get? b=some u)(heo:∃ u,h'.get? e=some u):Un fs ex H (upd H x o) h h':=by
 have hx:∀ b,H b=none→b≠x:=fun b n z=>by subst z;rw[n] at mu;exact mu
 have hb:∀ b,H b=none→b≠e:=fun b n z=>by
  subst z
  rcases he with r | r
  ·exact hx b n r
  ·rw[n] at r;cases r
 have hm:∀ b u,H b=some u→¬ Mut (some u)→b≠x:=fun b u q nm z=>by subst z;rw[q] at mu;exact nm mu
 refine⟨fun b u q n _ _=>k b u (hb b n) q,fun b u q n _ _=>⟨u.slots,k b u (hb b n) q⟩,fun b u q n _=>by rw[aP (hx b n)];exact n,fun b u q _=>?_,
  fun b xs q=>by rw[aP (hm b _ q fun z=>z)];exact q,fun b u xs q=>by rw[aP (hm b _ q fun z=>z)];exact q,fun b ps q=>⟨#[],by rw[aP (hm b _ q fun z=>z),q];simp⟩⟩
 by_cases hbe:b=e
 ·subst hbe;exact heo
 ·exact⟨u,k b u hbe q⟩
end
def trk (h:Heap)(H:Hp):List Addr:=(List.range h.objs.size).filter fun a=>(H a).isSome
def kq (h:Heap)(H:Hp):Heap:=PySem.W.hideAll h (trk h H)
theorem o9 (h:Heap)(H:Hp):(kq h H).objs.size=h.objs.size:=PySem.W.hideAll_size _ _
theorem qH {h:Heap}{H:Hp}{b:Addr}{o:Obj}(e:h.get? b=some o)(n:H b=none):(kq h H).get? b=some o :=
 PySem.W.hideAll_get _ e fun hm=>by
  have q:(H b).isSome=true:=(mem_filter.mp hm).2
  rw[n] at q;simp at q
theorem rJ {h:Heap}{H:Hp}{b:Addr}{o:Obj}(e:(kq h H).get? b=some o):h.get? b=some o∧H b=none:=by
 have e':h.get? b=some o:=PySem.W.of_hideAll (trk h H) e
 refine⟨e',?_⟩
 cases q:H b with
 | none=>rfl
 | some x =>
   have hm:b∈trk h H:=mem_filter.mpr ⟨mem_range.mpr (Heap.lt_size e'),by simp[q]⟩
   have z:(kq h H).get? b=none:=PySem.W.hideAll_none (trk h H) hm
   rw[z] at e;cases e
def sg (g h:Heap)(L:Addr):List (Addr×Obj):=(List.range h.objs.size).filterMap fun a=>if a=L∨(g.get? a).isSome=true then none else (h.get? a).map fun o=>(a,o)
def rest (g h:Heap)(L d:Addr):List (Addr×Obj):=(sg g h L).filter fun p=>decide (p.1≠d)
end L2
namespace L2
open PySem PySem.Spec PyProof.Rows
structure Mod (K:PySem.W.Frag)(mg:Str→Option Value)(base:Heap):Prop where
 kin:K.In base
 glob:base.Ns mainGlobals mg
 blt:∃ mb,base.Ns builtinsNs mb∧∀ x:Str,x≠"__name__" →mb x=bootBuiltins x
 nolimit:base.NoLimit
structure Cx where
 prog:Program
 w:World
 K:PySem.W.Frag
 mg:Str→Option Value
 base:Heap
 A:Around
 N:List Str
 s₀:Shared
 H₀:Hp
 env:Env
 outer:List Env
 stack:List Env
 ex:List Addr
 fn:Str→Bool
 calm:Bool
 pn:List (Addr×Obj)
 xe:Value→Shared→Prop
def frs (l:List Env):List Addr:=l.filterMap (·.frame)
abbrev Cx.fs (X:Cx):List Addr:=frs X.outer
def Vis (sc:Scope)(x:Str):Prop:=sc.names.lookup x=some .local∨sc.names.lookup x=some .cell∨sc.names.lookup x=some .free
def Loc (sc:Scope)(x:Str):Prop:=sc.names.lookup x=some .local∨sc.names.lookup x=some .cell
def vf (env:Env)(h:Heap)(m:Str→Option Value)(x:Str)(u:Value):Prop :=
 (env.kindOf x=some .local∧m x=some u)∨((env.kindOf x=some .cell∨env.kindOf x=some .free)∧∃ c,env.cells.lookup x=some c∧h.IsCell c (some u))
structure Cx.Ok (X:Cx):Prop where
 mod:Mod X.K X.mg X.base
 kind:X.env.scope.kind=.function
 glob:X.env.globals=mainGlobals
 blt:X.env.builtins=builtinsNs
 above:X.s₀.heap.objs.size≤X.env.locals
 inj:∀ x y c,X.env.cells.lookup x=some c→X.env.cells.lookup y=some c→x=y
 has:∀ x,(X.env.kindOf x=some .cell∨X.env.kindOf x=some .free)→∃ c,X.env.cells.lookup x=some c
 cab:∀ x c,X.fn x=true→X.env.cells.lookup x=some c→X.s₀.heap.objs.size≤c
 hd:X.calm=true→X.A.handled=none
 frames:X.A.frames=some X.stack
 stk:X.stack=X.outer∨(X.stack=X.env :: X.outer∧X.env.frame=some X.env.locals)
 exf:∀ b∈X.ex,b≠X.env.locals∧∀ x c,X.env.cells.lookup x=some c→c≠b
 bs:∀ b o,X.base.get? b=some o→X.s₀.heap.get? b=some o∧X.H₀ b=none
 bsz:X.base.objs.size≤X.s₀.heap.objs.size
 noex:∀ b o,X.base.get? b=some o→b∉X.ex
 exfs:∀ b∈X.ex,b∉X.fs
 funs:X.s₀.heap.FunFrames X.base X.outer
 frf:∀ b∈X.fs,X.H₀ b=none
structure Inv (X:Cx)(pins:List (Addr×Obj))(σ:List (Option V))(H:Hp)(s:Shared):Prop where
 ok:X.Ok
 os:s.os=X.s₀.os
 bare:AllBare s.gens
 base:Un X.fs X.ex X.H₀ H X.s₀.heap s.heap
 loc:∃ m,s.heap.Ns X.env.locals m∧∀ (i:Nat) (x:Str) (v:V),X.N[i]? = some x→σ[i]? = some (some v)→Vis X.env.scope x→∃ u,az v u∧vf X.env s.heap m x u
 cell:∀ x c,X.env.cells.lookup x=some c→∃ v,s.heap.IsCell c v
 free:H X.env.locals=none
 freeC:∀ x c,X.env.cells.lookup x=some c→H c=none
 pin:∀ p∈X.pn++pins,s.heap.get? p.1=some p.2∧H p.1=none∧p.1≠X.env.locals∧p.1∉X.fs∧∀ v,p.2.data≠.cell v
 hok:HOk X.prog X.w H s.heap
 len:σ.length=X.N.length
section
variable {X:Cx}{pins:List (Addr×Obj)}{σ:List (Option V)}{H H':Hp}{s:Shared}{h':Heap}
theorem Cx.Ok.nofr (ok:X.Ok){b:Addr}{o:Obj}(e:X.base.get? b=some o):b∉X.fs:=fun hb=>by
 have:=(ok.funs.mem hb).1
 rw[e] at this;cases this
theorem Inv.bs (I:Inv X pins σ H s):∀ b o,X.base.get? b=some o→s.heap.get? b=some o∧H b=none:=fun b o e =>
 ⟨I.base.keep b o (I.ok.bs b o e).1 (I.ok.bs b o e).2 (I.ok.nofr e) (I.ok.noex b o e),I.base.free b o (I.ok.bs b o e).1 (I.ok.bs b o e).2 (I.ok.noex b o e)⟩
theorem Inv.bk (I:Inv X pins σ H s):∀ b o,X.base.get? b=some o→s.heap.get? b=some o:=fun b o e=>(I.bs b o e).1
theorem Inv.mod (I:Inv X pins σ H s):Mod X.K X.mg X.base:=I.ok.mod
theorem Inv.kIn (I:Inv X pins σ H s):X.K.In s.heap:=I.ok.mod.kin.keeps I.bk
theorem Inv.lt (I:Inv X pins σ H s):X.env.locals<s.heap.objs.size:=let ⟨_,hn,_⟩:=I.loc;hn.lt
theorem Inv.sz (I:Inv X pins σ H s):X.s₀.heap.objs.size≤s.heap.objs.size:=Nat.le_trans I.ok.above (Nat.le_of_lt I.lt)
theorem Inv.nofs (I:Inv X pins σ H s){a:Addr}(h:s.heap.objs.size≤a):a∉X.fs:=fun hb=>by
 obtain⟨_,o,ho,_⟩:=I.ok.funs.mem hb
 exact absurd (Nat.lt_of_lt_of_le (Heap.lt_size ho) (Nat.le_trans I.sz h)) (Nat.lt_irrefl _)
theorem Inv.cne (I:Inv X pins σ H s):∀ x c,X.env.cells.lookup x=some c→c≠X.env.locals:=fun x c e z=>by
 obtain⟨v,o,ho,hd⟩:=I.cell x c e
 obtain⟨m,⟨o',es,ep,ho',hd',_⟩,_⟩:=I.loc
 rw[z,ho'] at ho;cases ho;rw[hd'] at hd;cases hd
theorem Inv.funs (I:Inv X pins σ H s):s.heap.FunFrames X.base X.outer:=by
 have all:∀ (l:List Env),(∀ b∈frs l,b∈X.fs)→X.s₀.heap.FunFrames X.base l→s.heap.FunFrames X.base l:=by
  intro l
  induction l with
  | nil=>intro _ _;trivial
  | cons env r ih =>
    intro hs hl
    obtain⟨hk,⟨L,o,hf,hn,ho,hd⟩,hr⟩:=hl
    have hL:L∈X.fs:=hs L (by unfold frs;rw[filterMap_cons,hf];exact mem_cons_self)
    obtain⟨sl,e⟩:=I.base.slot L o ho (I.ok.frf L hL) hL fun z=>I.ok.exfs L z hL
    exact⟨hk,⟨L,_,hf,hn,e,hd⟩,ih (fun b hb=>hs b (by unfold frs;rw[filterMap_cons,hf];exact mem_cons_of_mem _ hb)) hr⟩
 exact all X.outer (fun _ hb=>hb) I.ok.funs
theorem Inv.stack (I:Inv X pins σ H s):s.heap.FunFrames X.base X.stack:=by
 rcases I.ok.stk with e | ⟨e,hf⟩
 ·rw[e];exact I.funs
 ·rw[e]
  obtain⟨m,hn,_⟩:=I.loc
  refine .cons (by rw[I.ok.kind];decide) hf hn ?_ I.funs
  exact Heap.get?_none_of_le (Nat.le_trans I.ok.bsz I.ok.above)
theorem Inv.stkSub (I:Inv X pins σ H s):∀ b∈frs X.stack,b∈X.env.locals :: X.fs:=fun b hb=>by
 rcases I.ok.stk with e | ⟨e,hf⟩
 ·rw[e] at hb;exact mem_cons_of_mem _ hb
 ·rw[e] at hb
  unfold frs at hb
  rw[filterMap_cons,hf] at hb
  exact hb
theorem Inv.stkFree (I:Inv X pins σ H s):∀ b∈frs X.stack,H b=none:=fun b hb=>by
 rcases mem_cons.mp (I.stkSub b hb) with e | hb
 ·rw[e];exact I.free
 ·obtain⟨_,o,ho,_⟩:=I.ok.funs.mem hb
  exact I.base.free b o ho (I.ok.frf b hb) fun z=>I.ok.exfs b z hb
theorem Inv.step {g':Array GenState}{t':Nat}{d':Drawn}{ch:List Addr}(I:Inv X pins σ H s)
 (hch:∀ b∈ch,(b∈X.ex∨X.s₀.heap.objs.size≤b)∧b≠X.env.locals∧(∀ x c,X.env.cells.lookup x=some c→c≠b)∧∀ p∈X.pn++pins,p.1≠b)
 (keep:∀ b o,b≠X.env.locals→b∉X.fs→b∉ch→s.heap.get? b=some o→H b=none→h'.get? b=some o)
 (slot:∀ b o,b≠X.env.locals→b∈X.fs→b∉ch→s.heap.get? b=some o→H b=none→∃ sl,h'.get? b=some { o with slots:=sl }) (free:∀ b o,b∉ch→s.heap.get? b=some o→H b=none→H' b=none)
 (there:∀ b o,b∉ch→s.heap.get? b=some o→∃ o',h'.get? b=some o')
 (tups:∀ b xs,H b=some (.tup xs)→H' b=some (.tup xs)) (frzs:∀ b o u,H b=some (.frz o u)→H' b=some (.frz o u)) (tbls:∀ b ps,H b=some (.tbl ps)→∃ more,H' b=some (.tbl (ps++more)))
 (ns:∀ m,s.heap.Ns X.env.locals m→h'.Ns X.env.locals m) (hok:HOk X.prog X.w H' h') (hg:AllBare g') :
 Inv X pins σ H' { s with heap:=h',gens:=g',drawn:=d',toks:=t' }:=by
 have neL:∀ b o,X.s₀.heap.get? b=some o→b≠X.env.locals:=fun b o e=>Nat.ne_of_lt (Nat.lt_of_lt_of_le (Heap.lt_size e) I.ok.above)
 have neC:∀ b o,X.s₀.heap.get? b=some o→b∉X.ex→b∉ch:=fun b o e hx hb=>by
  rcases (hch b hb).1 with z | z
  ·exact hx z
  ·exact absurd (Nat.lt_of_lt_of_le (Heap.lt_size e) z) (Nat.lt_irrefl _)
 have cellK:∀ x c,X.env.cells.lookup x=some c→∀ v,s.heap.IsCell c v→h'.IsCell c v:=fun x c e v ⟨o,ho,hd⟩=>by
  have nch:c∉ch:=fun z=>(hch c z).2.2.1 x c e rfl
  by_cases hc:c∈X.fs
  ·obtain⟨sl,q⟩:=slot c o (I.cne x c e) hc nch ho (I.freeC x c e)
   exact⟨_,q,hd⟩
  ·exact⟨o,keep c o (I.cne x c e) hc nch ho (I.freeC x c e),hd⟩
 refine⟨I.ok,I.os,hg,⟨fun b o e n hb hx=>?_,fun b o e n hb hx=>?_,fun b o e n hx=>?_,fun b o e hx=>?_,fun b xs e=>tups b xs (I.base.tups b xs e),fun b o xs e=>frzs b o xs (I.base.frzs b o xs e),fun b ps e=>?_⟩,?_,fun x c e=>?_,?_,fun x c e=>?_,fun p hp=>?_,hok,I.len⟩
 ·exact keep b o (neL b o e) hb (neC b o e hx) (I.base.keep b o e n hb hx) (I.base.free b o e n hx)
 ·obtain⟨sl,e1⟩:=I.base.slot b o e n hb hx
  obtain⟨sl',e2⟩:=slot b _ (neL b o e) hb (neC b o e hx) e1 (I.base.free b o e n hx)
  exact⟨sl',e2⟩
 ·obtain⟨o',e1⟩:=I.base.there b o e hx
  exact free b o' (neC b o e hx) e1 (I.base.free b o e n hx)
 ·obtain⟨o',e1⟩:=I.base.there b o e hx
  exact there b o' (neC b o e hx) e1
 ·obtain⟨m1,e1⟩:=I.base.tbls b ps e
  obtain⟨m2,e2⟩:=tbls b _ e1
  exact⟨m1++m2,by rw[e2,Array.append_assoc]⟩
 ·obtain⟨m,hn,hl⟩:=I.loc
  refine⟨m,ns m hn,fun i x v e1 e2 e3=>?_⟩
  obtain⟨u,r,l⟩:=hl i x v e1 e2 e3
  refine⟨u,r,?_⟩
  rcases l with l | ⟨k,c,e,z⟩
  ·exact .inl l
  ·exact .inr ⟨k,c,e,cellK x c e _ z⟩
 ·obtain⟨v,z⟩:=I.cell x c e
  exact⟨v,cellK x c e v z⟩
 ·obtain⟨m,⟨o,_,_,ho,_⟩,_⟩:=I.loc
  exact free _ o (fun z=>(hch _ z).2.1 rfl) ho I.free
 ·obtain⟨v,o,ho,hd⟩:=I.cell x c e
  exact free c o (fun z=>(hch c z).2.2.1 x c e rfl) ho (I.freeC x c e)
 ·obtain⟨e,n,ne,nf,d⟩:=I.pin p hp
  have nch:p.1∉ch:=fun z=>(hch p.1 z).2.2.2 p hp rfl
  exact⟨keep p.1 p.2 ne nf nch e n,free p.1 p.2 nch e n,ne,nf,d⟩
theorem Inv.un {t':Nat}(I:Inv X pins σ H s)(u:Un X.fs [] H H' s.heap h')(hok:HOk X.prog X.w H' h'):Inv X pins σ H' { s with heap:=h',toks:=t' }:=by
 obtain⟨m,⟨o,es,ep,ho,r⟩,_⟩:=id I.loc
 obtain⟨sl,hL⟩:=u.any ho I.free (by simp)
 exact I.step (g':=s.gens) (d':=s.drawn) (ch:=[]) (fun _ z=>nomatch z) (fun b o _ hb _ e n=>u.keep b o e n hb (by simp)) (fun b o _ hb _ e n=>u.slot b o e n hb (by simp)) (fun b o _ e n=>u.free b o e n (by simp)) (fun b o _ e=>u.there b o e (by simp)) u.tups u.frzs u.tbls (fun m' hm=>by
  obtain⟨o',es',ep',ho',r'⟩:=hm
  rw[ho] at ho';cases ho'
  exact⟨_,es',ep',hL,r'⟩) hok I.bare
theorem Inv.call {g':Array GenState}{t':Nat}{d':Drawn}{ch:List Addr}(I:Inv X pins σ H s)(u:Un (frs X.stack) ch H H' s.heap h')(hok:HOk X.prog X.w H' h')(hg:AllBare g')
 (hch:∀ b∈ch,(b∈X.ex∨X.s₀.heap.objs.size≤b)∧b≠X.env.locals∧(∀ x c,X.env.cells.lookup x=some c→c≠b)∧∀ p∈X.pn++pins,p.1≠b) :
 Inv X pins σ H' { s with heap:=h',gens:=g',drawn:=d',toks:=t' }:=by
 obtain⟨m,⟨o,es,ep,ho,r⟩,_⟩:=id I.loc
 obtain⟨sl,hL⟩:=u.any ho I.free fun z=>(hch _ z).2.1 rfl
 exact I.step (ch:=ch) hch (fun b o hL hb hc e n=>u.keep b o e n (fun z=>(mem_cons.mp (I.stkSub b z)).elim hL hb) hc) (fun b o _ _ hc e n=>u.any e n hc) (fun b o hc e n=>u.free b o e n hc) (fun b o hc e=>u.there b o e hc) u.tups u.frzs u.tbls (fun m' hm=>by
  obtain⟨o',es',ep',ho',r'⟩:=hm
  rw[ho] at ho';cases ho'
  exact⟨_,es',ep',hL,r'⟩) hok hg
theorem Inv.turned {t':Nat}{it:Addr}(I:Inv X pins σ H s)(k:∀ b o,b≠it→s.heap.get? b=some o→h'.get? b=some o)(hn:H it=none)(hL:it≠X.env.locals)
 (h1:it∈X.ex∨X.s₀.heap.objs.size≤it) (h2:∀ x c,X.env.cells.lookup x=some c→c≠it) (h3:∀ p∈X.pn++pins,p.1≠it):Inv X pins σ H { s with heap:=h',toks:=t' }:=by
 have nit:∀ b u,H b=some u→b≠it:=fun b u e z=>by rw[z,hn] at e;cases e
 refine I.step (g':=s.gens) (d':=s.drawn) (ch:=[it]) (fun b hb=>?_) (fun b o _ _ hc e _=>k b o (fun z=>hc (by simp[z])) e) (fun b o _ _ hc e _=>⟨o.slots,k b o (fun z=>hc (by simp[z])) e⟩) (fun _ _ _ _ n=>n)
  (fun b o hc e=>⟨o,k b o (fun z=>hc (by simp[z])) e⟩) (fun _ _ e=>e) (fun _ _ _ e=>e) (fun b ps e=>⟨#[],by rw[e];simp⟩) (fun m hm=>?_) (fun b u e=>?_) I.bare
 ·have e:b=it:=by simpa using hb
  subst e
  exact⟨h1,hL,h2,h3⟩
 ·obtain⟨o,es,ep,ho,r⟩:=hm
  exact⟨o,es,ep,k _ o (Ne.symm hL) ho,r⟩
 ·refine (I.hok b u e).stay (fun c v hc q=>k c v ?_ q) (fun _ q=>q) fun _ _ q=>q
  rcases hc with z | z
  ·rw[z];exact nit b u e
  ·exact nit c _ z
theorem Inv.tok (I:Inv X pins σ H s)(t:Nat):Inv X pins σ H { s with toks:=t }:=I.un (h':=s.heap) (t':=t) Un.refl I.hok
theorem Inv.kept {t':Nat}(I:Inv X pins σ H s)(k:∀ b u,s.heap.get? b=some u→h'.get? b=some u):Inv X pins σ H { s with heap:=h',toks:=t' }:=I.un (Un.kept k) (I.hok.kept k)
theorem Inv.laid {a:Addr}{o:HO}{t':Nat}(I:Inv X pins σ H s)(k:∀ b u,s.heap.get? b=some u→h'.get? b=some u)(hp:s.heap.objs.size≤a)(new:aS X.prog X.w (upd H a o) h' a o) :
 Inv X pins σ (upd H a o) { s with heap:=h',toks:=t' }:=I.un (Un.laid k hp (I.hok.fresh hp)) (I.hok.laid k hp new)
theorem Inv.write {x e:Addr}{o:HO}{t':Nat}(I:Inv X pins σ H s)(mu:Mut (H x))(he:e=x∨H e=some (.own x))(k:∀ b u,b≠e→s.heap.get? b=some u→h'.get? b=some u)(heo:∃ u,h'.get? e=some u)
 (new:aS X.prog X.w (upd H x o) h' x o):Inv X pins σ (upd H x o) { s with heap:=h',toks:=t' }:=I.un (Un.write mu he k heo) (I.hok.write mu he k heo new)
theorem Inv.pins_of {pins':List (Addr×Obj)}(I:Inv X pins σ H s)(h:∀ p∈pins',s.heap.get? p.1=some p.2∧H p.1=none∧p.1≠X.env.locals∧p.1∉X.fs∧∀ v,p.2.data≠.cell v):Inv X pins' σ H s :=
 ⟨I.ok,I.os,I.bare,I.base,I.loc,I.cell,I.free,I.freeC,fun p hp=>(mem_append.mp hp).elim (fun z=>I.pin p (mem_append_left _ z)) (h p),I.hok,I.len⟩
theorem lH {N:List Str}(hN:N.Nodup){i j:Nat}{x:Str}(a:N[i]? = some x)(b:N[j]? = some x):i=j:=by
 obtain⟨h1,e1⟩:=List.getElem?_eq_some_iff.mp a
 obtain⟨h2,e2⟩:=List.getElem?_eq_some_iff.mp b
 exact (List.getElem_inj hN).mp (e1.trans e2.symm)
theorem jj {M:Model}{A:Around}{E:Value→Shared→Prop}{i:Nat}{x:Str}{v:V}{u:Value}{Q:Unit→Shared→Prop}(I:Inv X pins σ H s)(hN:X.N.Nodup)(hi:X.N[i]? = some x)(hx:Loc X.env.scope x)(r:az v u)
 (h:∀ s',Inv X pins (σ.set i (some v)) H s'→(∃ a,Heap.SameBut a s.heap s'.heap∧(a=X.env.locals∨X.env.cells.lookup x=some a))→Q () s') (hf:X.fn x=true∨X.env.scope.names.lookup x=some .local:=by first | exact .inl rfl | exact .inr rfl | assumption):wpAny M A (storeName X.env x u) Q E s:=by
 obtain⟨m,hn,hl⟩:=id I.loc
 have hcls:(X.env.scope.kind == .class || (X.env.scope.kind == .module && X.env.locals != X.env.globals))=false:=by rw[I.ok.kind];rfl
 have hiσ:i < σ.length:=by rw[I.len];exact (List.getElem?_eq_some_iff.mp hi).1
 have cne:=I.cne
 have tracked:∀ {a:Addr} {h':Heap},(∃ o,s.heap.get? a=some o∧H a=none)→Heap.SameBut a s.heap h'→HOk X.prog X.w H h':=fun {a h'} ha hs b ob e=>by
  obtain⟨_,_,hfree⟩:=ha
  refine (I.hok b ob e).stay (fun c w' hc q=>(hs.2 c ?_).trans q) (fun _ q=>q) fun _ _ q=>q
  rintro rfl
  rcases hc with rfl | hc
  ·rw[hfree] at e;cases e
  ·rw[hfree] at hc;cases hc
 rcases hx with hk | hk
 ·refine wpAny_storeName_local hk hn (fun h' hn' hs=>?_) hcls
  obtain⟨oL,_,_,hoL,_⟩:=id hn
  refine h _ ⟨I.ok,I.os,I.bare,⟨fun b o e n hb hx=>?_,fun b o e n hb hx=>?_,I.base.free,fun b o e hx=>?_,I.base.tups,I.base.frzs,I.base.tbls⟩,⟨_,hn',fun j y v' e1 e2 e3=>?_⟩,fun y c e=>?_,I.free,I.freeC,fun p hp=>?_,tracked ⟨oL,hoL,I.free⟩ hs,by simpa using I.len⟩ ⟨_,hs,.inl rfl⟩
  ·exact (hs.2 b (Nat.ne_of_lt (Nat.lt_of_lt_of_le (Heap.lt_size e) I.ok.above))).trans (I.base.keep b o e n hb hx)
  ·obtain⟨sl,e1⟩:=I.base.slot b o e n hb hx
   exact⟨sl,(hs.2 b (Nat.ne_of_lt (Nat.lt_of_lt_of_le (Heap.lt_size e) I.ok.above))).trans e1⟩
  ·obtain⟨o',e1⟩:=I.base.there b o e hx
   exact⟨o',(hs.2 b (Nat.ne_of_lt (Nat.lt_of_lt_of_le (Heap.lt_size e) I.ok.above))).trans e1⟩
  ·by_cases hj:j=i
   ·subst hj
    rw[hi] at e1;cases e1
    rw[List.getElem?_set_self hiσ] at e2
    cases e2
    exact⟨u,r,.inl ⟨hk,by simp⟩⟩
   ·rw[List.getElem?_set_ne (Ne.symm hj)] at e2
    obtain⟨u',r',q⟩:=hl j y v' e1 e2 e3
    refine⟨u',r',?_⟩
    rcases q with⟨k,e⟩ | ⟨k,c,e,z⟩
    ·refine .inl ⟨k,?_⟩
     have:y≠x:=fun e=>hj (lH hN e1 (e▸hi))
     simp[this,e]
    ·exact .inr ⟨k,c,e,z.sameBut hs (cne y c e)⟩
  ·obtain⟨w',z⟩:=I.cell y c e
   exact⟨w',z.sameBut hs (cne y c e)⟩
  ·obtain⟨e,n,ne,nf,d⟩:=I.pin p hp
   exact⟨(hs.2 p.1 ne).trans e,n,ne,nf,d⟩
 ·have hfn:X.fn x=true:=by
   rcases hf with z | z
   ·exact z
   ·rw[z] at hk;cases hk
  obtain⟨c,hc⟩:=I.ok.has x (.inl hk)
  obtain⟨w',z⟩:=I.cell x c hc
  refine wpAny_storeName_cell I.ok.kind hk hc z (fun h' hc' hs=>?_)
  obtain⟨oc,hoc,hocd⟩:=id z
  refine h { s with heap:=h' } ⟨I.ok,I.os,I.bare,⟨fun b o e n hb hx=>?_,fun b o e n hb hx=>?_,I.base.free,fun b o e hx=>?_,I.base.tups,I.base.frzs,I.base.tbls⟩,⟨m,hn.sameBut hs (Ne.symm (cne x c hc)),fun j y v' e1 e2 e3=>?_⟩,fun y c' e=>?_,I.free,I.freeC,fun p hp=>?_,tracked ⟨oc,hoc,I.freeC x c hc⟩ hs,by simpa using I.len⟩ ⟨c,hs,.inr hc⟩
  ·exact (hs.2 b (Nat.ne_of_lt (Nat.lt_of_lt_of_le (Heap.lt_size e) (I.ok.cab x c hfn hc)))).trans (I.base.keep b o e n hb hx)
  ·obtain⟨sl,e1⟩:=I.base.slot b o e n hb hx
   exact⟨sl,(hs.2 b (Nat.ne_of_lt (Nat.lt_of_lt_of_le (Heap.lt_size e) (I.ok.cab x c hfn hc)))).trans e1⟩
  ·obtain⟨o',e1⟩:=I.base.there b o e hx
   exact⟨o',(hs.2 b (Nat.ne_of_lt (Nat.lt_of_lt_of_le (Heap.lt_size e) (I.ok.cab x c hfn hc)))).trans e1⟩
  ·by_cases hj:j=i
   ·subst hj
    rw[hi] at e1;cases e1
    rw[List.getElem?_set_self hiσ] at e2
    cases e2
    exact⟨u,r,.inr ⟨.inl hk,c,hc,hc'⟩⟩
   ·rw[List.getElem?_set_ne (Ne.symm hj)] at e2
    obtain⟨u',r',q⟩:=hl j y v' e1 e2 e3
    refine⟨u',r',?_⟩
    rcases q with q | ⟨k,c',e,z'⟩
    ·exact .inl q
    ·refine .inr ⟨k,c',e,z'.sameBut hs ?_⟩
     rintro rfl
     exact hj (lH hN e1 (I.ok.inj _ _ _ e hc▸hi))
  ·by_cases hcc:c'=c
   ·subst hcc;exact⟨_,hc'⟩
   ·obtain⟨w2,z2⟩:=I.cell y c' e
    exact⟨w2,z2.sameBut hs hcc⟩
  ·obtain⟨e,n,ne,nf,d⟩:=I.pin p hp
   refine⟨(hs.2 p.1 ?_).trans e,n,ne,nf,d⟩
   intro q
   rw[q,hoc] at e
   have q':oc=p.2:=Option.some.inj e
   exact d w' (by rw[←q'];exact hocd)
theorem fC {M:Model}{A:Around}{E:Value→Shared→Prop}{i:Nat}{x:Str}{v:V}{u:Value}{Q:Unit→Shared→Prop}(I:Inv X pins σ H s)(hN:X.N.Nodup)(hi:X.N[i]? = some x)(hx:Loc X.env.scope x)(r:az v u)
 (h:∀ s',Inv X pins (σ.set i (some v)) H s'→Q () s') (hf:X.fn x=true∨X.env.scope.names.lookup x=some .local:=by first | exact .inl rfl | exact .inr rfl | assumption):wpAny M A (storeName X.env x u) Q E s :=
 jj I hN hi hx r (fun s' I' _=>h s' I') hf
theorem Inv.call' {s':Shared}{ch:List Addr}(I:Inv X pins σ H s)(ho:s'.os=s.os)(u:Un (frs X.stack) ch H H' s.heap s'.heap)(hok:HOk X.prog X.w H' s'.heap)(hg:AllBare s'.gens)
 (hch:∀ b∈ch,(b∈X.ex∨X.s₀.heap.objs.size≤b)∧b≠X.env.locals∧(∀ x c,X.env.cells.lookup x=some c→c≠b)∧∀ p∈X.pn++pins,p.1≠b):Inv X pins σ H' s':=by
 obtain⟨h',g',d',t',o'⟩:=s'
 have e:o'=s.os:=ho
 subst e
 exact I.call (g':=g') (t':=t') (d':=d') u hok hg hch
end
abbrev XK:=Value→Option Addr→Hp→Prop
abbrev St:=List (Option V)
abbrev VK:=V→Hp→Prop
abbrev TE:=St→Hp→VK→Prop
abbrev TT:=St→Hp→(Bool→Hp→Prop)→Prop
abbrev TA:=St→Hp→(List V→Hp→Prop)→Prop
structure i9 where
 nx:St→Hp→Prop
 rt:VK
 bk:St→Hp→Prop:=fun _ _=>False
 ct:St→Hp→Prop:=fun _ _=>False
abbrev TS:=i9→St→Hp→Prop
def EP (X:Cx)(pins:List (Addr×Obj))(σ:St)(Q:VK)(u:Value)(s':Shared):Prop:=∃ v H',Inv X pins σ H' s'∧az v u∧Q v H'
def TP (X:Cx)(pins:List (Addr×Obj))(σ:St)(Q:Bool→Hp→Prop)(b:Bool)(s':Shared):Prop:=∃ H',Inv X pins σ H' s'∧Q b H'
def AP (X:Cx)(pins:List (Addr×Obj))(σ:St)(Q:List V→Hp→Prop)(us:List Value)(s':Shared):Prop:=∃ vs H',Inv X pins σ H' s'∧aB vs us∧Q vs H'
def SP (X:Cx)(pins:List (Addr×Obj))(D:i9)(f:Flow)(s':Shared):Prop :=
 match f with
 | .next=>∃ σ' H',Inv X pins σ' H' s'∧D.nx σ' H'
 | .brk=>∃ σ' H',Inv X pins σ' H' s'∧D.bk σ' H'
 | .cont=>∃ σ' H',Inv X pins σ' H' s'∧D.ct σ' H'
 | .ret u=>∃ v σ' H',Inv X pins σ' H' s'∧az v u∧D.rt v H'
def PE (X:Cx)(e:Expr)(t:TE):Prop :=
 ∀ (pins:List (Addr×Obj)) (s:Shared) (σ:St) (H:Hp) (Q:VK),Inv X pins σ H s→t σ H Q→wpAny (model X.prog X.w) X.A (eval e X.env) (EP X pins σ Q) X.xe s
def PT (X:Cx)(e:Expr)(t:TT):Prop :=
 ∀ (pins:List (Addr×Obj)) (s:Shared) (σ:St) (H:Hp) (Q:Bool→Hp→Prop),Inv X pins σ H s→t σ H Q→wpAny (model X.prog X.w) X.A (isTrue e X.env (eval e X.env)) (TP X pins σ Q) X.xe s
def PW (X:Cx)(e:Expr)(t:TT):Prop :=
 ∀ (whole:Sem Value) (pins:List (Addr×Obj)) (s:Shared) (σ:St) (H:Hp) (Q:Bool→Hp→Prop),Inv X pins σ H s→t σ H Q→wpAny (model X.prog X.w) X.A (isTrue e X.env whole) (TP X pins σ Q) X.xe s
theorem PW.pt {X:Cx}{e:Expr}{t:TT}(h:PW X e t):PT X e t:=h _
def PA (X:Cx)(es:List Expr)(t:TA):Prop :=
 ∀ (pos:Pos) (pins:List (Addr×Obj)) (s:Shared) (σ:St) (H:Hp) (Q:List V→Hp→Prop),Inv X pins σ H s→t σ H Q→wpAny (model X.prog X.w) X.A (spliced (backTo pos (starEach es X.env))) (AP X pins σ Q) X.xe s
def PS (X:Cx)(st:Stmt)(t:TS):Prop :=
 ∀ (pins:List (Addr×Obj)) (s:Shared) (σ:St) (H:Hp) (D:i9),Inv X pins σ H s→t D σ H→wpAny (model X.prog X.w) X.A (exec st X.env) (SP X pins D) X.xe s
def PSs (X:Cx)(st:List Stmt)(t:TS):Prop :=
 ∀ (pins:List (Addr×Obj)) (s:Shared) (σ:St) (H:Hp) (D:i9),Inv X pins σ H s→t D σ H→wpAny (model X.prog X.w) X.A (execs st X.env) (SP X pins D) X.xe s
theorem thn {α:Type}{t:Sem α}{Q Q':α→Shared→Prop}{M:Model}{A:Around}{E:Value→Shared→Prop}{s:Shared}(h:wpAny M A t Q E s)(hQ:∀ a s,Q a s→Q' a s):wpAny M A t Q' E s:=wpAny_mono h hQ fun _ _ x=>x
end L2
namespace L2
open PySem PySem.Spec PyProof.Rows
section
variable {X:Cx}
theorem bin {a b:Expr}{ta tb:TE}(ha:PE X a ta)(hb:PE X b tb){pins:List (Addr×Obj)}{s:Shared}{σ:St}{H:Hp}{R:V→V→Hp→Prop}(I:Inv X pins σ H s)(h:ta σ H fun x H1=>tb σ H1 fun y H2=>R x y H2)
 {α:Type} {Q:α→Shared→Prop} {f:Value→Value→Sem α}
 (hf:∀ v u s2 x y H2,Inv X pins σ H2 s2→az x v→az y u→R x y H2→wpAny (model X.prog X.w) X.A (f v u) Q X.xe s2) :
 wpAny (model X.prog X.w) X.A (eval a X.env) (fun v s₁=>wpAny (model X.prog X.w) X.A (eval b X.env) (fun u s₂=>wpAny (model X.prog X.w) X.A (f v u) Q X.xe s₂) X.xe s₁) X.xe s:=by
 refine thn (ha pins s σ H _ I h) fun v s1 ⟨x,H1,I1,r1,q1⟩=>?_
 refine thn (hb pins s1 σ H1 _ I1 q1) fun u s2 ⟨y,H2,I2,r2,q2⟩=>?_
 exact hf v u s2 x y H2 I2 r1 r2 q2
def t6 (i:Nat):TE:=fun σ H Q=>∃ v,σ[i]? = some (some v)∧Q v H
def tC (v:V):TE:=fun _ H Q=>Q v H
theorem ti {i:Nat}{x:Str}{pos:Pos}(hN:X.N[i]? = some x)(hv:Vis X.env.scope x)(hd:(x == ("__debug__" : Str))=false:=by decide)(hcd:(x == ("__classdict__" : Str))=false:=by decide):PE X (.Name x pos) (t6 i):=by
 intro pins s σ H Q I h
 obtain⟨v,e,h⟩:=h
 obtain⟨m,hn,hl⟩:=I.loc
 obtain⟨u,r,l⟩:=hl i x v hN e hv
 have fin:EP X pins σ Q u s:=⟨v,H,I,r,h⟩
 rcases l with⟨hk,hm⟩ | ⟨hk,c,hc,hcell⟩
 ·exact wpAny_Name (wpAny_loadName_local I.ok.kind hk hn hm fin) hd
 ·rcases hk with hk | hk
  ·exact wpAny_Name (wpAny_loadName_cell I.ok.kind hk hc hcell fin) hd
  ·exact wpAny_Name (wpAny_loadName_free I.ok.kind hk hc hcell fin hcd) hd
theorem ad {i j pos}:PE X (.Constant (.int i) j pos) (tC (.int i)):=fun _ _ _ H _ I h=>wpAny_Constant_int ⟨.int i,H,I.tok _,⟨_,rfl⟩,h⟩
theorem ck {b j pos}:PE X (.Constant (.bool b) j pos) (tC (.bl b)):=fun _ _ _ H _ I h=>Constant_bool ⟨.bl b,H,I,rfl,h⟩
theorem f7 {j pos}:PE X (.Constant .none j pos) (tC .non):=fun _ _ _ H _ I h=>Constant_none ⟨.non,H,I,rfl,h⟩
def Gl (X:Cx)(x:Str):Prop:=X.env.kindOf x=some .globalImplicit
theorem rS {E:Value→Shared→Prop}{pins:List (Addr×Obj)}{s:Shared}{σ:St}{H:Hp}{x:Str}{u:Value}{pos:Pos}{Q:Value→Shared→Prop}(I:Inv X pins σ H s)(hg:Gl X x)(hm:X.mg x=some u)(h:Q u s)
 (hd:(x == ("__debug__" : Str))=false:=by decide):wpAny (model X.prog X.w) X.A (eval (.Name x pos) X.env) Q E s :=
 Calls.Name_function_global I.ok.kind hg (Calls.loadGlobal_global (by rw[I.ok.glob];exact I.mod.glob.keeps I.bk) hm h) hd
theorem dE {E:Value→Shared→Prop}{pins:List (Addr×Obj)}{s:Shared}{σ:St}{H:Hp}{x:Str}{u:Value}{pos:Pos}{Q:Value→Shared→Prop}(I:Inv X pins σ H s)(hg:Gl X x)(hm:X.mg x=none)(hv:bootBuiltins x=some u)(h:Q u s)
 (hn:x≠"__name__" :=by decide) (hd:(x == ("__debug__" : Str))=false:=by decide):wpAny (model X.prog X.w) X.A (eval (.Name x pos) X.env) Q E s:=by
 obtain⟨mb,h1,h2⟩:=I.mod.blt
 exact Calls.Name_function_global I.ok.kind hg (Calls.loadGlobal_builtin (by rw[I.ok.glob];exact I.mod.glob.keeps I.bk) hm (by rw[I.ok.blt];exact h1.keeps I.bk) ((h2 x hn).trans hv) h) hd
variable {a b:Expr}{ta tb:TE}{pos:Pos}
def PC (X:Cx)(op:CmpOp)(a b:Expr)(t:TE):Prop :=
 ∀ (pins:List (Addr×Obj)) (s:Shared) (σ:St) (H:Hp) (Q:VK),Inv X pins σ H s→t σ H Q →
   wpAny (model X.prog X.w) X.A (eval a X.env) (fun v s₁=>wpAny (model X.prog X.w) X.A (eval b X.env) (fun u s₂=>wpAny (model X.prog X.w) X.A (compareOp op v u) (EP X pins σ Q) X.xe s₂) X.xe s₁) X.xe s
theorem qu (b:Expr){op:CmpOp}(h:op≠.In)(h2:op≠.NotIn):behindInMarks op b=false:=by
 have e1:(op == CmpOp.In)=false:=by cases op <;> first | rfl | exact absurd rfl h
 have e2:(op == CmpOp.NotIn)=false:=by cases op <;> first | rfl | exact absurd rfl h2
 cases b <;> simp[behindInMarks,e1,e2]
def uM (ta:TE):TE:=fun σ H Q=>ta σ H fun x H1=>Q (.bl (decide (x=.non))) H1
def ud (ta:TE):TE:=fun σ H Q=>ta σ H fun x H1=>Q (.bl (!decide (x=.non))) H1
theorem az.none_iff {x:V}{v:Value}(r:az x v):(v == Value.none)=decide (x=.non):=by
 cases x with
 | non=>cases r;rfl
 | bl _=>cases r;rfl
 | int _=>obtain⟨t,rfl⟩:=r;rfl
 | str _=>obtain⟨t,rfl⟩:=r;rfl
 | byt _=>obtain⟨t,rfl⟩:=r;rfl
 | flt _=>obtain⟨t,rfl⟩:=r;rfl
 | ref _=>cases r;rfl
 | ty _=>cases r;rfl
theorem tj {j pos'}(ha:PE X a ta):PC X .Is a (.Constant .none j pos') (uM ta):=by
 intro pins s σ H Q I h
 refine thn (ha pins s σ H _ I h) fun v s1 ⟨x,H1,I1,r1,q1⟩=>?_
 exact Constant_none (is_none_gen ⟨.bl _,H1,I1,by rw[r1.none_iff];rfl,q1⟩)
theorem nM {j pos'}(ha:PE X a ta):PC X .IsNot a (.Constant .none j pos') (ud ta):=by
 intro pins s σ H Q I h
 refine thn (ha pins s σ H _ I h) fun v s1 ⟨x,H1,I1,r1,q1⟩=>?_
 exact Constant_none (isnot_none_gen ⟨.bl _,H1,I1,by rw[r1.none_iff];rfl,q1⟩)
def tB (t:TE):TT:=fun σ H Q=>t σ H fun x H1=>∃ c,x=.bl c∧Q c H1
theorem dZ {op:CmpOp}{t:TE}(h:PC X op a b t)(h1:behindInMarks op b=false:=by first | exact qu _ (by decide) (by decide) | rfl):PT X (.Compare a [op] [b] pos) (tB t):=by
 intro pins s σ H Q I hw
 refine wpAny_isTrue_Compare1 (thn (h pins s σ H _ I hw) fun v s1 h1=>thn h1 fun u s2 h2=>thn h2 fun c s3 ⟨x,H1,I1,r1,q1⟩=>?_) h1
 obtain⟨d,rfl,q⟩:=q1
 cases r1
 exact wpAny_truthy_bool ⟨H1,I1,q⟩
theorem dB {e:Expr}{t:TE}(h:PE X e t)(he:∀ whole,isTrue e X.env whole=(do let v ←whole;standAt e.pos;holding [v] (truthy v)):=by intro _;rfl):PT X e (tB t):=by
 intro pins s σ H Q I hw
 refine isTrue_plain (thn (h pins s σ H _ I hw) fun v s1 ⟨x,H1,I1,r1,q1⟩=>?_) (he _)
 obtain⟨d,rfl,q⟩:=q1
 cases r1
 exact wpAny_truthy_bool ⟨H1,I1,q⟩
variable {tA tB':TT}{rest:List Expr}
def tOr (t u:TT):TT:=fun σ H Q=>t σ H fun c H1=>if c=true then Q true H1 else u σ H1 Q
def uJ (t:TT):TT:=fun σ H Q=>t σ H fun c H1=>Q (!c) H1
theorem g8 (ha:PT X a tA):PW X (.BoolOp .Or [a] pos) tA:=by
 intro wh pins s σ H Q I h
 refine isTrue_or (thn (ha pins s σ H Q I h) fun c s1 e=>?_)
 cases c with
 | false=>exact isTrue_or_nil e
 | true=>exact e
theorem lj (ha:PT X a tA)(hb:PW X (.BoolOp .Or (b :: rest) pos) tB'):PW X (.BoolOp .Or (a :: b :: rest) pos) (tOr tA tB'):=by
 intro wh pins s σ H Q I h
 refine isTrue_or (thn (ha pins s σ H _ I h) fun c s1 ⟨H1,I1,q1⟩=>?_)
 cases c with
 | true=>exact⟨H1,I1,q1⟩
 | false=>exact hb wh pins s1 σ H1 Q I1 q1
theorem g9 (ha:PT X a tA):PT X (.UnaryOp .Not a pos) (uJ tA):=by
 intro pins s σ H Q I h
 exact isTrue_not (ha pins s σ H (fun c H1=>Q (!c) H1) I h)
def uh (ta tb:TE):TE:=fun σ H Q=>ta σ H fun x H1=>∃ c,x=.bl c∧if c=true then tb σ H1 Q else Q (.bl false) H1
def uc (ta:TE):TE:=fun σ H Q=>ta σ H fun x H1=>∃ c,x=.bl c∧Q (.bl (!c)) H1
theorem j5 {op}{t:TE}(h:PE X a t):PE X (.BoolOp op [a] pos) t:=fun pins s σ H Q I hw=>BoolOp_one (h pins s σ H Q I hw)
theorem ic (ha:PE X a ta)(hb:PE X (.BoolOp .And (b :: rest) pos) tb):PE X (.BoolOp .And (a :: b :: rest) pos) (uh ta tb):=by
 intro pins s σ H Q I h
 refine BoolOp_and (thn (ha pins s σ H _ I h) fun v s1 ⟨x,H1,I1,r1,q1⟩=>?_)
 obtain⟨c,rfl,q1⟩:=q1
 cases r1
 refine wpAny_truthy_bool ?_
 cases c with
 | true=>exact hb pins s1 σ H1 Q I1 q1
 | false=>exact⟨.bl false,H1,I1,rfl,q1⟩
theorem qg (ha:PE X a ta):PE X (.UnaryOp .Not a pos) (uc ta):=by
 intro pins s σ H Q I h
 refine UnaryOp_ (thn (ha pins s σ H _ I h) fun v s1 ⟨x,H1,I1,r1,q1⟩=>?_)
 obtain⟨c,rfl,q1⟩:=q1
 cases r1
 exact not_of (wpAny_truthy_bool ⟨.bl (!c),H1,I1,rfl,q1⟩)
def tIf (t:TT)(ta tb:TE):TE:=fun σ H Q=>t σ H fun c H1=>if c=true then ta σ H1 Q else tb σ H1 Q
theorem qi {c:Expr}(hc:PT X c tA)(ha:PE X a ta)(hb:PE X b tb):PE X (.IfExp c a b pos) (tIf tA ta tb):=by
 intro pins s σ H Q I h
 refine wpAny_IfExp (thn (hc pins s σ H _ I h) fun d s1 ⟨H1,I1,q1⟩=>?_)
 cases d with
 | true=>exact ha pins s1 σ H1 Q I1 q1
 | false=>exact hb pins s1 σ H1 Q I1 q1
end
end L2
namespace L2
open PySem PySem.Spec PyProof.Rows
def SqL (K:PySem.W.Frag)(H:Hp)(a:Addr)(xs:List V):Prop :=
 Rd H a (.lst xs) ∨
  ∃ (o:Obj) (its:Array Value) (n:Nat),K.lookup a=some o∧o.cls=.type "list" ∧o.dict=none∧o.data=.seq its n∧its.size≤sizeLine∧aB xs its.toList
def SqT (K:PySem.W.Frag)(H:Hp)(a:Addr)(xs:List V):Prop :=
 Rd H a (.tup xs) ∨
  ∃ (o:Obj) (its:Array Value) (n:Nat),K.lookup a=some o∧o.cls=.type "tuple" ∧o.data=.seq its n∧its.size≤sizeLine∧aB xs its.toList
def vd:Value→Option V
 | .none=>some .non
 | .bool b=>some (.bl b)
 | .int i _=>some (.int i)
 | .str x _=>some (.str x)
 | .bytes b _=>some (.byt b)
 | .float b _=>some (.flt b)
 | .ref a=>some (.ref a)
 | .type n=>some (.ty n)
 | _=>none
theorem az.abs {x:V}{u:Value}(r:az x u):vd u=some x:=by
 cases x with
 | non=>cases r;rfl
 | bl _=>cases r;rfl
 | int _=>obtain⟨t,rfl⟩:=r;rfl
 | str _=>obtain⟨t,rfl⟩:=r;rfl
 | byt _=>obtain⟨t,rfl⟩:=r;rfl
 | flt _=>obtain⟨t,rfl⟩:=r;rfl
 | ref _=>cases r;rfl
 | ty _=>cases r;rfl
theorem az.inj {x y:V}{u:Value}(r:az x u)(q:az y u):x=y:=Option.some.inj (r.abs.symm.trans q.abs)
theorem aB.inj:∀ {xs ys:List V} {us:List Value},aB xs us→aB ys us→xs=ys
 | _,_,_,.nil,.nil=>rfl
 | _,_,_,.cons r t,.cons r' t'=>by rw[r.inj r',aB.inj t t']
section
variable {X:Cx}{pins:List (Addr×Obj)}{σ:St}{H:Hp}{s:Shared}{a:Addr}{xs ys:List V}
theorem SqL.of {K:PySem.W.Frag}(h:H a=some (.lst xs)):SqL K H a xs:=.inl (.inl h)
theorem Inv.list (I:Inv X pins σ H s)(h:SqL X.K H a xs):∃ its:List Value,aB xs its∧PlainL s.heap a its.toArray∧xs.length≤sizeLine:=by
 rcases h with h | ⟨o,its,n,hk,hc,hd,hs,hz,r⟩
 ·obtain⟨z,its,n,r,e⟩:=h.ok I.hok
  exact⟨its,r,⟨_,n,e,rfl,rfl,rfl⟩,z⟩
 ·refine⟨its.toList,r,⟨o,n,I.kIn a o hk,hc,hd,by simpa using hs⟩,?_⟩
  have e:=r.length
  simp only[Array.length_toList] at e
  lia
theorem Inv.tuple (I:Inv X pins σ H s)(h:SqT X.K H a xs):∃ its:List Value,aB xs its∧IsTup s.heap a its.toArray∧xs.length≤sizeLine:=by
 rcases h with h | ⟨o,its,n,hk,hc,hs,hz,r⟩
 ·obtain⟨z,its,r,p⟩:=h.ok I.hok
  exact⟨its,r,p,z⟩
 ·refine⟨its.toList,r,⟨o,I.kIn a o hk,hc,n,by simpa using hs⟩,?_⟩
  have e:=r.length
  simp only[Array.length_toList] at e
  lia
theorem Inv.list_inj (I:Inv X pins σ H s)(h:SqL X.K H a xs)(h':SqL X.K H a ys):xs=ys:=by
 obtain⟨its,r,⟨o,n,e,_,_,d⟩,_⟩:=I.list h
 obtain⟨its',r',⟨o',n',e',_,_,d'⟩,_⟩:=I.list h'
 rw[e] at e';cases e'
 rw[d] at d'
 injection d' with d1 _
 have:its=its':=by simpa using congrArg Array.toList d1
 subst this
 exact r.inj r'
end
abbrev Cx.wish (X:Cx)(E:Value→Shared→Prop):Cx:={ X with xe:=E }
abbrev Cx.nox (X:Cx):Cx:=X.wish fun _ _=>False
theorem Cx.Ok.wish {X:Cx}(ok:X.Ok)(E:Value→Shared→Prop):(X.wish E).Ok :=
 ⟨ok.mod,ok.kind,ok.glob,ok.blt,ok.above,ok.inj,ok.has,ok.cab,ok.hd,ok.frames,ok.stk,ok.exf,ok.bs,ok.bsz,ok.noex,ok.exfs,ok.funs,ok.frf⟩
theorem Cx.Ok.unwish {X:Cx}{E:Value→Shared→Prop}(ok:(X.wish E).Ok):X.Ok :=
 ⟨ok.mod,ok.kind,ok.glob,ok.blt,ok.above,ok.inj,ok.has,ok.cab,ok.hd,ok.frames,ok.stk,ok.exf,ok.bs,ok.bsz,ok.noex,ok.exfs,ok.funs,ok.frf⟩
section
variable {X:Cx}{pins:List (Addr×Obj)}{σ:St}{H:Hp}{s:Shared}{E:Value→Shared→Prop}
theorem Inv.wish (I:Inv X pins σ H s)(E:Value→Shared→Prop):Inv (X.wish E) pins σ H s:=⟨I.ok.wish E,I.os,I.bare,I.base,I.loc,I.cell,I.free,I.freeC,I.pin,I.hok,I.len⟩
theorem Inv.unwish (I:Inv (X.wish E) pins σ H s):Inv X pins σ H s:=⟨I.ok.unwish,I.os,I.bare,I.base,I.loc,I.cell,I.free,I.freeC,I.pin,I.hok,I.len⟩
theorem SP.unwish {D:i9}{f:Flow}{s':Shared}(h:SP (X.wish E) pins D f s'):SP X pins D f s':=by
 cases f with
 | next=>obtain⟨σ',H',I,q⟩:=h;exact⟨σ',H',I.unwish,q⟩
 | brk=>obtain⟨σ',H',I,q⟩:=h;exact⟨σ',H',I.unwish,q⟩
 | cont=>obtain⟨σ',H',I,q⟩:=h;exact⟨σ',H',I.unwish,q⟩
 | ret u=>obtain⟨v,σ',H',I,r,q⟩:=h;exact⟨v,σ',H',I.unwish,r,q⟩
theorem PSs.nox {st:List Stmt}{t:TS}(h:PSs X.nox st t):PSs X st t:=fun pins s σ H D I hw =>
 wpAny_mono (h pins s σ H D (I.wish _) hw) (fun _ _ q=>q.unwish) fun _ _ z=>False.elim z
end
section
variable {X:Cx}{st:Stmt}{rest:List Stmt}{t u:TS}{e:Expr}{te:TE}{pos:Pos}
def ue:TS:=fun D σ H=>D.nx σ H
def uG (t u:TS):TS:=fun D σ H=>t { D with nx:=u D } σ H
theorem aM:PSs X [] ue:=fun _ _ σ H _ I h=>wpAny_execs_nil ⟨σ,H,I,h⟩
theorem ab (h1:PS X st t)(h2:PSs X rest u):PSs X (st :: rest) (uG t u):=by
 intro pins s σ H D I h
 refine wpAny_execs_cons (thn (h1 pins s σ H { D with nx:=u D } I h) fun f s1 q=>?_)
 cases f with
 | next =>
   obtain⟨σ',H',I',q⟩:=q
   exact h2 pins s1 σ' H' D I' q
 | ret v=>exact q
 | brk=>exact q
 | cont=>exact q
theorem af (h1:PS X st t):PSs X [st] t:=by
 intro pins s σ H D I h
 refine wpAny_execs_cons (thn (h1 pins s σ H D I h) fun f s1 q=>?_)
 cases f with
 | next=>exact wpAny_execs_nil q
 | ret v=>exact q
 | brk=>exact q
 | cont=>exact q
theorem Inv.quiet {pins:List (Addr×Obj)}{σ:St}{H:Hp}{s:Shared}(I:Inv X pins σ H s):interactive X.env=false:=by simp[interactive,I.ok.kind]
def nn (te:TE):TS:=fun D σ H=>te σ H fun _ H1=>D.nx σ H1
theorem jY (he:PE X e te)(hs:swapsWith e none pos.line X.env=pure false:=by rfl):PS X (.Expr e pos) (nn te):=by
 intro pins s σ H D I h
 exact wpAny_Expr_any (thn (he pins s σ H _ I h) fun v s1 ⟨x,H1,I1,r1,q1⟩=>⟨σ,H1,I1,q1⟩) I.quiet hs
def uH (te:TE):TS:=fun D σ H=>te σ H D.rt
theorem ar (he:PE X e te):PS X (.Return (some e) pos) (uH te):=by
 intro pins s σ H D I h
 exact wpAny_Return_some (thn (he pins s σ H _ I h) fun v s1 ⟨x,H1,I1,r1,q1⟩=>⟨x,σ,H1,I1,r1,q1⟩)
def uN (c:TT)(t u:TS):TS:=fun D σ H=>c σ H fun b H1=>if b=true then t D σ H1 else u D σ H1
theorem bf {c:Expr}{a b:List Stmt}{tc:TT}(hc:PT X c tc)(ha:PSs X a t)(hb:PSs X b u):PS X (.If c a b pos) (uN tc t u):=by
 intro pins s σ H D I h
 refine wpAny_If (thn (hc pins s σ H _ I h) fun d s1 ⟨H1,I1,q1⟩=>?_)
 cases d with
 | true=>exact ha pins s1 σ H1 D I1 q1
 | false=>exact hb pins s1 σ H1 D I1 q1
def sI:TS:=fun _ _ _=>False
theorem qc:PS X st sI:=fun _ _ _ _ _ _ h=>h.elim
end
abbrev TG:=V→St→Hp→(St→Hp→Prop)→Prop
abbrev TGs:=List V→St→Hp→(St→Hp→Prop)→Prop
def PG (X:Cx)(target:Expr)(t:TG):Prop :=
 ∀ (pins:List (Addr×Obj)) (s:Shared) (σ:St) (H:Hp) (v:V) (u:Value) (Q:St→Hp→Prop),Inv X pins σ H s→az v u→t v σ H Q →
   wpAny (model X.prog X.w) X.A (assign target X.env u) (fun _ s'=>∃ σ' H',Inv X pins σ' H' s'∧Q σ' H') X.xe s
def PGs (X:Cx)(ts:List Expr)(t:TGs):Prop :=
 ∀ (pins:List (Addr×Obj)) (s:Shared) (σ:St) (H:Hp) (vs:List V) (us:List Value) (Q:St→Hp→Prop),Inv X pins σ H s→aB vs us→t vs σ H Q →
   wpAny (model X.prog X.w) X.A (assignInOrder ((assignEach ts X.env).map (·.2)) us) (fun _ s'=>∃ σ' H',Inv X pins σ' H' s'∧Q σ' H') X.xe s
section
variable {X:Cx}{pos:Pos}
def qJ (i:Nat):TG:=fun v σ H Q=>Q (σ.set i (some v)) H
theorem ao {i:Nat}{x:Str}(hN:X.N.Nodup)(hi:X.N[i]? = some x)(hx:Loc X.env.scope x)(hf:X.fn x=true∨X.env.scope.names.lookup x=some .local:=by first | exact .inl rfl | exact .inr rfl | assumption):PG X (.Name x pos) (qJ i):=by
 intro pins s σ H v u Q I r h
 exact wpAny_assign_Name (fC I hN hi hx r (fun s' I'=>⟨_,H,I',h⟩) hf)
def vb:TGs:=fun vs σ H Q=>vs=[]∧Q σ H
def uy (t:TG)(u:TGs):TGs:=fun vs σ H Q=>∃ v r,vs=v :: r∧t v σ H fun σ' H'=>u r σ' H' Q
theorem c0:PGs X [] vb:=by
 intro pins s σ H vs us Q I r h
 obtain⟨e,h⟩:=h
 subst e
 cases r
 exact assignInOrder_nil ⟨σ,H,I,h⟩
theorem aT {e:Expr}{es:List Expr}{t:TG}{u:TGs}(h1:PG X e t)(h2:PGs X es u)
 (hs:(assignEach (e :: es) X.env).map (·.2)=assign e X.env :: (assignEach es X.env).map (·.2):=by rfl):PGs X (e :: es) (uy t u):=by
 intro pins s σ H vs us Q I r h
 obtain⟨v,vr,e1,h⟩:=h
 subst e1
 cases r with
 | cons r rr =>
   rw[hs]
   refine assignInOrder_cons (thn (h1 pins s σ H _ _ _ I r h) fun _ s1 ⟨σ1,H1,I1,q1⟩=>?_)
   exact h2 pins s1 σ1 H1 _ _ Q I1 rr q1
def va (K:PySem.W.Frag)(n:Nat)(t:TGs):TG:=fun v σ H Q=>∃ a xs,v=.ref a∧SqT K H a xs∧xs.length=n∧t xs σ H Q
theorem tf {es:List Expr}{k:Nat}{t:TGs}{n:Nat}(hc:X.calm=true)(h:PGs X es t)
 (hn:(assignEach es X.env).length=n:=by rfl) (hst:(assignEach es X.env).findIdx? (·.1)=none:=by rfl):PG X (.Tuple es k pos) (va X.K n t):=by
 intro pins s σ H v u Q I r hw
 obtain⟨a,xs,e1,hq,hl,hw⟩:=hw
 subst e1
 cases r
 obtain⟨its,rv,ht,hz⟩:=I.tuple hq
 refine assign_Tuple_tuple (I.ok.hd hc) ht (by simp[hn,←hl,rv.length]) hst fun h' hx=>?_
 have I1:Inv X pins σ H { s with heap:=h' }:=I.kept (t':=s.toks) fun b o e=>hx b o (Nat.ne_of_lt (Heap.lt_size e)) e
 exact h pins _ σ H xs _ Q I1 (by simpa using rv) hw
def sP (te:TE)(g:TG):TS:=fun D σ H=>te σ H fun x H1=>g x σ H1 D.nx
theorem qd {tg e:Expr}{te:TE}{g:TG}(he:PE X e te)(hg:PG X tg g)(hs:swapsWithSole [tg] e pos.line X.env=pure false:=by rfl)(hw:swappedStores [tg] e X.env=pure none:=by rfl)
 (h1:(assignEach [tg] X.env).map (·.2)=[assign tg X.env]:=by rfl):PS X (.Assign [tg] e pos) (sP te g):=by
 intro pins s σ H D I h
 refine wpAny_Assign_stores (thn (he pins s σ H _ I h) fun v s1 ⟨x,H1,I1,r1,q1⟩=>?_) hs hw
 rw[h1]
 exact thn (hg pins s1 σ H1 x v _ I1 r1 q1) fun _ s2 q=>q
theorem ai {i:Nat}{x:Str}{e:Expr}{te:TE}{pos':Pos}(hN:X.N.Nodup)(hi:X.N[i]? = some x)(hx:Loc X.env.scope x)(he:PE X e te)(hs:swapsWith e (some (.Name x pos')) pos.line X.env=pure false:=by rfl)(hf:X.fn x=true∨X.env.scope.names.lookup x=some .local:=by first | exact .inl rfl | exact .inr rfl | assumption) :
 PS X (.Assign [.Name x pos'] e pos) (sP te (qJ i)):=by
 intro pins s σ H D I h
 refine wpAny_Assign_Name (thn (he pins s σ H _ I h) fun v s1 ⟨y,H1,I1,r1,q1⟩=>?_) hs
 exact fC I1 hN hi hx r1 (fun s2 I2=>⟨_,H1,I2,q1⟩) hf
def uI (i j:Nat)(ta:TA):TS:=fun D σ H=>ta σ H fun vs H1=>∃ v w,vs=[v,w]∧D.nx ((σ.set i (some v)).set j (some w)) H1
theorem sZ {i j:Nat}{x y:Str}{a b:Expr}{ta:TA}{px py pt:Pos}{kt k2 pt2}(hc:X.calm=true)(hN:X.N.Nodup)(hi:X.N[i]? = some x)(hj:X.N[j]? = some y)(hij:i≠j)
 (hx:X.env.scope.names.lookup x=some .local) (hy:X.env.scope.names.lookup y=some .local) (ha:PA X [a,b] ta)
 (hw:swappedStores [.Tuple [.Name x px,.Name y py] kt pt] (.Tuple [a,b] k2 pt2) X.env=pure (some [x,y]))
 (hs:swapsWithSole [.Tuple [.Name x px,.Name y py] kt pt] (.Tuple [a,b] k2 pt2) pos.line X.env=pure false:=by rfl) :
 PS X (.Assign [.Tuple [.Name x px,.Name y py] kt pt] (.Tuple [a,b] k2 pt2) pos) (uI i j ta):=by
 intro pins s σ H D I h
 rw[exec_Assign_arm]
 refine wpAny_bind (wpAny_standAt ?_)
 rw[hs]
 refine wpAny_bind (wpAny_pure ?_)
 rw[if_neg (by decide)]
 refine wpAny_bind (Tuple_ (thn (ha _ pins s σ H _ I h) fun us s1 ⟨vs,H1,I1,r1,q1⟩=>?_))
 obtain⟨v,w,e1,q1⟩:=q1
 subst e1
 obtain⟨u1,u2,rfl,rv,rw'⟩:∃ u1 u2,us=[u1,u2]∧az v u1∧az w u2:=by
  cases r1 with
  | cons p q =>
    cases q with
    | cons p' q' =>
      cases q'
      exact⟨_,_,rfl,p,p'⟩
 refine wpAny_newObj_type ?_ (by show 2≤sizeLine;decide)
 have I2:Inv X pins σ H1 { s1 with heap:=s1.heap.push { cls:=.type "tuple",data:=.seq [u1,u2].toArray } }:=I1.kept (t':=s1.toks) fun b o e=>Heap.get?_push_of_some _ e
 rw[hw]
 refine wpAny_bind (wpAny_pure ?_)
 show wpAny (model X.prog X.w) X.A (do rule "assign.swapped-stores";let items ←unpackItems (.ref s1.heap.objs.size) 2 none;assignInOrder [fun v=>bindName X.env y v,fun v=>bindName X.env x v] items.reverse;pure Flow.next) _ _ _
 refine wpAny_bind (wpAny_rule (wpAny_bind (unpackItems_tuple (items:=#[u1,u2]) (I.ok.hd hc) (IsTup.new s1.heap _) fun h' hx'=>?_)))
 have I3:=I2.kept (h':=h') (t':=s1.toks) fun b o e=>hx' b o (Nat.ne_of_lt (Heap.lt_size e)) e
 show wpAny _ _ (assignInOrder [fun v=>bindName X.env y v,fun v=>bindName X.env x v] [u2,u1] >>= fun _=>pure Flow.next) _ _ _
 refine wpAny_bind (assignInOrder_cons (wpAny_bindName (fC I3 hN hj (.inl hy) rw' (fun s2 I4=>?_) (.inr hy))))
 refine assignInOrder_cons (wpAny_bindName (fC I4 hN hi (.inl hx) rv (fun s3 I5=>assignInOrder_nil (wpAny_pure ?_)) (.inr hx)))
 rw[List.set_comm _ _ (Ne.symm hij)] at I5
 exact⟨_,H1,I5,q1⟩
end
section
variable {X:Cx}{pos:Pos}
def sH (c:TT)(tb:TS):TS:=fun D σ H=>∃ W:Nat→St→Hp→Prop,(∃ m,W m σ H)∧∀ m σ H,W m σ H →
 c σ H fun b H1=>if b=true then ∃ N:St→Hp→Prop,(∀ σ' H',N σ' H'→∃ m',m'<m∧W m' σ' H')∧tb { D with nx:=N,ct:=N,bk:=D.nx } σ H1 else D.nx σ H1
theorem ee {c:Expr}{body:List Stmt}{tc:TT}{tb:TS}(hp:PassesOwn (model X.prog X.w) X.A X.env X.xe)(hc:PT X c tc)(hb:PSs X body tb):PS X (.While c body [] pos) (sH tc tb):=by
 intro pins s σ H D I h
 obtain⟨W,⟨m0,w0⟩,turn⟩:=h
 refine wpAny_While (codeAny_whileLoop (fun n s'=>∃ σ' H',Inv X pins σ' H' s'∧W n σ' H') ?_ m0 ⟨σ,H,I,w0⟩)
 rintro n s1 ⟨σ1,H1,I1,w1⟩
 refine wpAny_passesOwn hp (thn (hc pins s1 σ1 H1 _ I1 (turn n σ1 H1 w1)) fun b s2 ⟨H2,I2,q2⟩=>?_)
 cases b with
 | true =>
   obtain⟨N,hN,q2⟩:=q2
   rw[if_pos rfl]
   refine wpAny_passesOwn hp (thn (hb pins s2 σ1 H2 _ I2 q2) fun f s3 q3=>?_)
   cases f with
   | next =>
     obtain⟨σ3,H3,I3,n3⟩:=q3
     obtain⟨m',hm,w3⟩:=hN σ3 H3 n3
     exact⟨m',hm,σ3,H3,I3,w3⟩
   | cont =>
     obtain⟨σ3,H3,I3,n3⟩:=q3
     obtain⟨m',hm,w3⟩:=hN σ3 H3 n3
     exact⟨m',hm,σ3,H3,I3,w3⟩
   | brk=>exact q3
   | ret v=>exact q3
 | false =>
   rw[if_neg Bool.false_ne_true]
   exact wpAny_execs_nil ⟨σ1,H2,I2,q2⟩
end
structure It where
 go:Nat→Hp→Prop
 yld:Nat→Hp→V→Hp→Prop
 stop:Nat→Hp→Prop
def kF (X:Cx)(pins:List (Addr×Obj))(H:Hp)(b:Addr):Prop :=
 H b=none∧b≠X.env.locals∧b∉X.fs∧(b∈X.ex∨X.s₀.heap.objs.size≤b)∧(∀ x c,X.env.cells.lookup x=some c→c≠b)∧∀ p∈X.pn++pins,p.1≠b
theorem Inv.fpOk {X:Cx}{pins:List (Addr×Obj)}{σ:St}{H H':Hp}{s:Shared}{b:Addr}(I:Inv X pins σ H s)(hb:s.heap.objs.size≤b)(hn:H' b=none):kF X pins H' b:=by
 refine⟨hn,Nat.ne_of_gt (Nat.lt_of_lt_of_le I.lt hb),I.nofs hb,.inr (Nat.le_trans I.sz hb),fun x c e z=>?_,fun p hp z=>?_⟩
 ·obtain⟨v,q⟩:=I.cell x c e
  exact absurd (Nat.lt_of_lt_of_le q.lt (by rw[z];exact hb)) (Nat.lt_irrefl _)
 ·exact absurd (Nat.lt_of_lt_of_le (Heap.lt_size (I.pin p hp).1) (by rw[z];exact hb)) (Nat.lt_irrefl _)
structure nc (P:Program)(w:World)(K:PySem.W.Frag)(tg:Expr)(J:It)(fp:List Addr)(it:Addr)(tn:Nat→Heap→Prop):Prop where
 mem:it∈fp
 obj:∀ i h,tn i h→∀ b∈fp,∃ o,h.get? b=some o∧∀ v,o.data≠.cell v
 keep:∀ i h h',tn i h→(∀ b∈fp,∀ o,h.get? b=some o→h'.get? b=some o)→tn i h'
 item:∀ (X:Cx),X.prog=P→X.w=w→X.K=K→X.calm=true→∀ (i:Nat) (pins:List (Addr×Obj)) (s:Shared) (σ:St) (H:Hp) (E:Value→Shared→Prop),Inv X pins σ H s→(∀ b∈fp,kF X pins H b)→tn i s.heap→J.go i H →
  wpAny (model P w) X.A (pyNext (.ref it)) (fun r s1=>∃ u,r=some u ∧
   wpAny (model P w) X.A (letOwnedTupleGo tg (.ref it) u) (fun _ s2=>∃ x H',Inv X pins σ H' s2∧az x u∧J.yld i H x H'∧tn (i+1) s2.heap∧∀ b∈fp,H' b=none) E s1) E s
 done:∀ (X:Cx),X.prog=P→X.w=w→X.K=K→X.calm=true→∀ (i:Nat) (pins:List (Addr×Obj)) (s:Shared) (σ:St) (H:Hp) (E:Value→Shared→Prop),Inv X pins σ H s→(∀ b∈fp,kF X pins H b)→tn i s.heap→J.stop i H →
  wpAny (model P w) X.A (pyNext (.ref it)) (fun r s1=>r=none∧Inv X pins σ H s1) E s
 self:∀ (A:Around) (i:Nat) (s:Shared) (Q:Value→Shared→Prop) (E:Value→Shared→Prop),tn i s.heap→Q (.ref it) s→wpAny (model P w) A (pyIter (.ref it)) Q E s
abbrev TI:=St→Hp→(It→Hp→Prop)→Prop
def PIE (X:Cx)(pins:List (Addr×Obj))(σ:St)(tg:Expr)(R:It→Hp→Prop)(itv:Value)(s2:Shared):Prop :=
 ∃ (it:Addr) (fp:List Addr) (tn:Nat→Heap→Prop) (J:It) (H':Hp),itv=.ref it∧Inv X pins σ H' s2∧nc X.prog X.w X.K tg J fp it tn∧tn 0 s2.heap∧(∀ b∈fp,kF X pins H' b)∧R J H'
def PI (X:Cx)(tg iter:Expr)(wi:TI):Prop :=
 ∀ (pins:List (Addr×Obj)) (s:Shared) (σ:St) (H:Hp) (R:It→Hp→Prop),Inv X pins σ H s→wi σ H R →
   wpAny (model X.prog X.w) X.A (eval iter X.env) (fun v s1=>wpAny (model X.prog X.w) X.A (pyIter v) (PIE X pins σ tg R) X.xe s1) X.xe s
theorem qI {M:Model}{A:Around}{E:Value→Shared→Prop}{s:Shared}{tg:Expr}{it:Addr}{u:Value}{o:Obj}{n:String}{vs:Array Value}{Q:Unit→Shared→Prop}(ho:s.heap.get? it=some o)(hc:o.cls=.type n)(hd:o.data=.fields vs)
 (hn:["enumerate","zip","dict_itemiterator","dict_reverseitemiterator","odict_iterator","itertools.zip_longest","itertools.pairwise"].contains n=false) (hQ:Q () s):wpAny M A (letOwnedTupleGo tg (.ref it) u) Q E s:=by
 unfold letOwnedTupleGo
 cases tg <;> first
  | exact wpAny_pure hQ
  | (cases u <;> first
   | exact wpAny_pure hQ
   | (refine wpAny_bind (wpAny_load ho ?_)
      rw[hc,hd]
      show wpAny M A (if (["enumerate","zip","dict_itemiterator","dict_reverseitemiterator","odict_iterator","itertools.zip_longest","itertools.pairwise"].contains n && vs[0]? == some (rawInt _))=true then _ else _) Q E s
      rw[if_neg (by intro h;rw[hn,Bool.false_and] at h;cases h)]
      exact wpAny_pure hQ))
def Itl (K:PySem.W.Frag)(a:Addr):It :=
 ⟨fun i H=>∃ xs x,SqL K H a xs∧xs[i]? = some x,fun i H x H'=>H'=H∧∀ xs,SqL K H a xs→xs[i]? = some x,fun i H=>∃ xs,SqL K H a xs∧xs.length≤i⟩
def Itr (lo:Int)(n:Nat):It:=⟨fun i _=>i<n,fun i H x H'=>H'=H∧x=.int (lo+i),fun i _=>n≤i⟩
theorem ox {P:Program}{w:World}{K:PySem.W.Frag}{tg:Expr}(a it:Addr):nc P w K tg (Itl K a) [it] it (fun i h=>h.IsListIter it a i) where
 mem:=by simp
 obj:=fun i h st b hb=>by
  have e:b=it:=by simpa using hb
  subst e
  obtain⟨o,e,c,d⟩:=st
  exact⟨o,e,fun v z=>by rw[d] at z;cases z⟩
 keep:=fun i h h' st k=>st.at fun o e=>k it (by simp) o e
 item:=by
  intro X hP hw hK hc i pins s σ H E I hf st hg
  subst hP hw hK
  obtain⟨xs,x,hq,hx⟩:=hg
  obtain⟨its,rv,p,hz⟩:=I.list hq
  obtain⟨u,hu,ru⟩:=rv.get hx
  obtain⟨f0,f1,f2,f3,f4,f5⟩:=hf it (by simp)
  refine wpAny_pyNext_list_item st p.isList (x:=u) (by simpa using hu) fun h' st' sb=>?_
  have I1:Inv X pins σ H { s with heap:=h' }:=I.turned (t':=s.toks) (fun b o hb e=>(sb.2 b hb).trans e) f0 f1 f3 f4 f5
  obtain⟨o,e,c,d⟩:=id st'
  exact⟨u,rfl,qI (s:={ s with heap:=h' }) e c d (by decide) ⟨x,H,I1,ru,⟨rfl,fun ys hy=>by rw[I.list_inj hy hq];exact hx⟩,st',fun b hb=>(hf b hb).1⟩⟩
 done:=by
  intro X hP hw hK hc i pins s σ H E I hf st hg
  subst hP hw hK
  obtain⟨xs,hq,hx⟩:=hg
  obtain⟨its,rv,p,hz⟩:=I.list hq
  obtain⟨f0,f1,f2,f3,f4,f5⟩:=hf it (by simp)
  have hl:=rv.length
  exact wpAny_pyNext_list_end (I.ok.hd hc) st p.isList (by simp;lia) fun h' eb=>⟨rfl,I.turned (t':=s.toks) (fun b o hb e=>eb b o hb e) f0 f1 f3 f4 f5⟩
 self:=fun _ _ _ _ _ st h=>wpAny_pyIter_listiter st h
theorem mB {P:Program}{w:World}{K:PySem.W.Frag}{tg:Expr}(it:Addr)(lo:Int)(n:Nat):nc P w K tg (Itr lo n) [it] it (fun i h=>IsRangeIter h it (lo+(i:Nat)*1) ((n:Int)-(i:Nat)) 1) where
 mem:=by simp
 obj:=fun i h st b hb=>by
  have e:b=it:=by simpa using hb
  subst e
  exact⟨_,st,fun v z=>by
   have z':Data.fields _=Data.cell v:=z
   cases z'⟩
 keep:=fun i h h' st k=>k it (by simp) _ st
 item:=by
  intro X hP hw hK hc i pins s σ H E I hf st hg
  subst hP hw hK
  obtain⟨f0,f1,f2,f3,f4,f5⟩:=hf it (by simp)
  have W:=Walks.range (prog:=X.prog) (w:=X.w) (I.ok.hd hc) it lo 1 n
  refine W.item i s _ _ hg st fun v h' tk hv st' kk=>?_
  obtain⟨t,rfl⟩:=hv
  have I1:Inv X pins σ H { s with heap:=h',toks:=tk }:=I.turned (fun b o hb e=>kk b o (by simpa using hb) e) f0 f1 f3 f4 f5
  refine⟨_,rfl,qI (s:={ s with heap:=h',toks:=tk }) (n:="range_iterator") st' rfl rfl (by decide) ⟨.int (lo+i),H,I1,⟨t,?_⟩,⟨rfl,rfl⟩,st',fun b hb=>(hf b hb).1⟩⟩
  rw[Int.mul_one]
 done:=by
  intro X hP hw hK hc i pins s σ H E I hf st hg
  subst hP hw hK
  obtain⟨f0,f1,f2,f3,f4,f5⟩:=hf it (by simp)
  exact wpAny_pyNext_range_end (I.ok.hd hc) st (by have:n≤i:=hg;lia) fun h' eb=>⟨rfl,I.turned (t':=s.toks) (fun b o hb e=>eb b o hb e) f0 f1 f3 f4 f5⟩
 self:=fun _ _ _ _ _ st h=>wpAny_pyIter_rangeiter st h
end L2
namespace L2
open PySem PySem.Spec PyProof.Rows
section
variable {X:Cx}{tg:Expr}
theorem p9 {pins:List (Addr×Obj)}{σ:St}{H:Hp}{s:Shared}{R:It→Hp→Prop}{E:Value→Shared→Prop}{lo hi:Int}{t u v:Tok}{tk:Nat}(I:Inv X pins σ H s)(h1:-(2 ^ 62)≤lo)(h2:lo<2 ^ 62)(h3:-(2 ^ 62)≤hi)(h4:hi<2 ^ 62)
 (q:R (Itr lo (hi-lo).toNat) H):wpAny (model X.prog X.w) X.A (pyIter (.ref s.heap.objs.size)) (PIE X pins σ tg R) E { s with heap:=s.heap.push { cls:=.type "range",data:=.fields #[.int lo t,.int hi u,.int 1 v] },toks:=tk }:=by
 refine wpAny_pyIter_range (IsRange.new ..) (small_one h1 h2 h3 h4) ?_
 have I1:Inv X pins σ H { s with heap:=s.heap.push { cls:=.type "range",data:=.fields #[.int lo t,.int hi u,.int 1 v] },toks:=tk }:=I.kept fun b o e=>Heap.get?_push_of_some _ e
 refine⟨(s.heap.push { cls:=.type "range",data:=.fields #[.int lo t,.int hi u,.int 1 v] }).objs.size,[(s.heap.push { cls:=.type "range",data:=.fields #[.int lo t,.int hi u,.int 1 v] }).objs.size],_,_,H,rfl,
  I1.kept (t':=tk) fun b o e=>Heap.get?_push_of_some _ e,mB _ lo (hi-lo).toNat,?_,fun b hb=>?_,q⟩
 ·have e1:lo+((0:Nat):Int)*1=lo:=by simp
  have e2:(((hi-lo).toNat:Nat):Int)-((0:Nat):Int)=Builtin.Range.rangeSize lo hi 1:=by rw[rangeSize_one];split <;> lia
  show IsRangeIter _ _ (lo+((0:Nat):Int)*1) ((((hi-lo).toNat:Nat):Int)-((0:Nat):Int)) 1
  rw[e1,e2]
  exact Heap.get?_push_size _ rfl
 ·have e:b=(s.heap.push { cls:=.type "range",data:=.fields #[.int lo t,.int hi u,.int 1 v] }).objs.size:=by simpa using hb
  subst e
  exact I1.fpOk (Nat.le_refl _) (I1.hok.fresh (Nat.le_refl _))
def uw (ta:TA):TI:=fun σ H R=>ta σ H fun vs H1=>∃ j:Int,vs=[.int j]∧-(2 ^ 62)≤j∧j<2 ^ 62∧R (Itr 0 j.toNat) H1
theorem cH {a:Expr}{ta:TA}{p pos:Pos}(hg:Gl X "range")(hm:X.mg "range" = none)(ha:PA X [a] ta)(hs:starEach [a] X.env=[(false,eval a X.env)]:=by rfl):PI X tg (.Call (.Name "range" p) [a] [] pos) (uw ta):=by
 intro pins s σ H R I h
 refine Call_ (dE I hg hm boot_range (PyProof.Rows.callWith_type1 (thn (ha pos pins s σ H _ I h) fun us s1 ⟨vs,H1,I1,r1,q1⟩=>?_) hs rfl))
 obtain⟨j,e,q1,q2,q⟩:=q1
 subst e
 cases r1 with
 | cons r rr =>
   cases rr
   obtain⟨t,rfl⟩:=r
   exact call_range_1 (p9 I1 (by lia) (by lia) q1 q2 (by simpa using q))
def uO (wi:TI)(g:TG)(tb:TS):TS:=fun D σ H=>wi σ H fun J H1=>∃ W:Nat→Nat→St→Hp→Prop,(∃ m,W 0 m σ H1)∧∀ i m σ H,W i m σ H →
 (J.stop i H∧D.nx σ H)∨(J.go i H∧∃ N:St→Hp→Prop,(∀ σ' H',N σ' H'→∃ m',m'<m∧W (i+1) m' σ' H')∧∀ x H',J.yld i H x H'→g x σ H' fun σ2 H2=>tb { D with nx:=N,ct:=N,bk:=D.nx } σ2 H2)
def hV (fp:List Addr)(h:Heap):List (Addr×Obj):=fp.filterMap fun b=>(h.get? b).map fun o=>(b,o)
theorem dD {fp:List Addr}{h:Heap}{b:Addr}{o:Obj}(hb:b∈fp)(e:h.get? b=some o):(b,o)∈hV fp h:=mem_filterMap.mpr ⟨b,hb,by rw[e];rfl⟩
theorem oS {fp:List Addr}{h:Heap}{p:Addr×Obj}(hp:p∈hV fp h):p.1∈fp∧h.get? p.1=some p.2:=by
 obtain⟨b,hb,e⟩:=mem_filterMap.mp hp
 cases q:h.get? b with
 | none=>rw[q] at e;cases e
 | some o =>
   rw[q] at e
   have e':(b,o)=p:=Option.some.inj e
   subst e'
   exact⟨hb,q⟩
theorem Inv.pinned {pins:List (Addr×Obj)}{σ:St}{H:Hp}{s:Shared}{fp:List Addr}(I:Inv X pins σ H s)(hf:∀ b∈fp,kF X pins H b)(ho:∀ b∈fp,∃ o,s.heap.get? b=some o∧∀ v,o.data≠.cell v):Inv X (pins++hV fp s.heap) σ H s :=
 I.pins_of fun p hp=>(mem_append.mp hp).elim (fun z=>I.pin p (mem_append_right _ z)) fun z=>by
  obtain⟨hb,e⟩:=oS z
  obtain⟨f0,f1,f2,_⟩:=hf p.1 hb
  obtain⟨o,e',d⟩:=ho p.1 hb
  rw[e] at e';cases e'
  exact⟨e,f0,f1,f2,d⟩
theorem Inv.unpinned {pins pl:List (Addr×Obj)}{σ:St}{H:Hp}{s:Shared}(I:Inv X (pins++pl) σ H s):Inv X pins σ H s:=I.pins_of fun p hp=>I.pin p (mem_append_right _ (mem_append_left _ hp))
theorem bq {iter:Expr}{body:List Stmt}{wi:TI}{g:TG}{tb:TS}{pos:Pos}(hp:PassesOwn (model X.prog X.w) X.A X.env X.xe)(hc:X.calm=true)(hi:PI X tg iter wi)(hg:PG X tg g)(hb:PSs X body tb)
 (hs:∀ x,foldedSetIterable iter X.env x=pure x:=by intro _;rfl):PS X (.For tg iter body [] pos) (uO wi g tb):=by
 intro pins s σ H D I h
 refine wpAny_For (thn (hi pins s σ H _ I h) fun v s1 h1=>thn h1 fun itv s2 h2=>?_) hs
 obtain⟨it,fp,tn,J,H2,e,I2,T,st2,f2,W,⟨m0,w0⟩,turn⟩:=h2
 subst e
 have stat:∀ {H':Hp},(∀ b∈fp,H' b=none)→∀ b∈fp,kF X pins H' b:=fun hn b hb=>⟨hn b hb,(f2 b hb).2⟩
 refine codeAny_forLoop_any (fun n s'=>∃ i σ' H',Inv X pins σ' H' s'∧tn i s'.heap∧(∀ b∈fp,H' b=none)∧W i n σ' H') ?_ m0 ⟨0,σ,H2,I2,st2,fun b hb=>(f2 b hb).1,w0⟩
 rintro n s3 ⟨i,σ3,H3,I3,st3,fr3,w3⟩
 rcases turn i n σ3 H3 w3 with⟨stop,qn⟩ | ⟨go,N,hN,step⟩
 ·refine wpAny_passesOwn hp (thn (T.done X rfl rfl rfl hc i pins s3 σ3 H3 X.xe I3 (stat fr3) st3 stop) fun r s4 ⟨hr,I4⟩=>?_)
  subst hr
  exact wpAny_execs_nil ⟨σ3,H3,I4,qn⟩
 ·refine wpAny_passesOwn hp (thn (T.item X rfl rfl rfl hc i pins s3 σ3 H3 X.xe I3 (stat fr3) st3 go) fun r s4 ⟨u,hr,h4⟩=>?_)
  subst hr
  refine wpAny_passesOwn hp (thn h4 fun _ s5 ⟨x,H5,I5,r5,y5,st5,fr5⟩=>?_)
  have I5':=I5.pinned (stat fr5) (T.obj _ _ st5)
  refine wpAny_passesOwn hp (thn (hg _ s5 σ3 H5 x u _ I5' r5 (step x H5 y5)) fun _ s6 ⟨σ6,H6,I6,q6⟩=>?_)
  refine wpAny_passesOwn hp (thn (hb _ s6 σ6 H6 _ I6 q6) fun f s7 q7=>?_)
  have again:∀ {σ7:St} {H7:Hp},Inv X (pins++hV fp s5.heap) σ7 H7 s7→N σ7 H7→∃ m,m<n∧∃ i σ' H',Inv X pins σ' H' s7∧tn i s7.heap∧(∀ b∈fp,H' b=none)∧W i m σ' H':=fun {σ7 H7} I7 n7=>by
   obtain⟨m',hm,w7⟩:=hN σ7 H7 n7
   refine⟨m',hm,i+1,σ7,H7,I7.unpinned,T.keep _ _ _ st5 fun b hb o e=>(I7.pin (b,o) (mem_append_right _ (mem_append_right _ (dD hb e)))).1,fun b hb=>?_,w7⟩
   obtain⟨o,e,d⟩:=T.obj _ _ st5 b hb
   exact (I7.pin (b,o) (mem_append_right _ (mem_append_right _ (dD hb e)))).2.1
  cases f with
  | next=>obtain⟨σ7,H7,I7,n7⟩:=q7;exact again I7 n7
  | cont=>obtain⟨σ7,H7,I7,n7⟩:=q7;exact again I7 n7
  | brk=>obtain⟨σ7,H7,I7,q7⟩:=q7;exact⟨σ7,H7,I7.unpinned,q7⟩
  | ret v=>obtain⟨x7,σ7,H7,I7,r7,q7⟩:=q7;exact⟨x7,σ7,H7,I7.unpinned,r7,q7⟩
end
theorem gf {lo:Int}{n:Nat}{g:TG}{tb:TS}{D:i9}{σ:St}{H:Hp}(Pv:Nat→St→Hp→Prop)(h0:Pv 0 σ H)
 (hs:∀ i σ H,i<n→Pv i σ H→g (.int (lo+i)) σ H fun σ2 H2=>tb { D with nx:=Pv (i+1),ct:=Pv (i+1),bk:=D.nx } σ2 H2) (hd:∀ σ H,Pv n σ H→D.nx σ H) :
 ∃ W:Nat→Nat→St→Hp→Prop,(∃ m,W 0 m σ H)∧∀ i m σ H,W i m σ H →
   ((Itr lo n).stop i H∧D.nx σ H)∨((Itr lo n).go i H∧∃ N:St→Hp→Prop,(∀ σ' H',N σ' H'→∃ m',m'<m∧W (i+1) m' σ' H')∧∀ x H',(Itr lo n).yld i H x H'→g x σ H' fun σ2 H2=>tb { D with nx:=N,ct:=N,bk:=D.nx } σ2 H2):=by
 refine⟨fun i m σ H=>m=n-i∧i≤n∧Pv i σ H,⟨n,by simp,Nat.zero_le _,h0⟩,?_⟩
 rintro i m σ H ⟨rfl,hi,p⟩
 by_cases hlt:i<n
 ·refine .inr ⟨hlt,Pv (i+1),fun σ' H' p'=>⟨n-(i+1),by lia,rfl,hlt,p'⟩,fun x H' y=>?_⟩
  obtain⟨e,y⟩:=y
  subst e y
  exact hs i σ _ hlt p
 ·have e:i=n:=by lia
  subst e
  exact .inl ⟨Nat.le_refl _,hd σ H p⟩
end L2
namespace L2
open PySem PySem.Spec PyProof.Rows
abbrev R2:=V→V→Hp→VK→Prop
def OpR (X:Cx)(f:Value→Value→Sem Value)(r:R2):Prop :=
 ∀ (pins:List (Addr×Obj)) (s:Shared) (σ:St) (H:Hp) (x y:V) (v u:Value) (Q:VK),Inv X pins σ H s→az x v→az y u→r x y H Q →
   wpAny (model X.prog X.w) X.A (f v u) (EP X pins σ Q) X.xe s
def UnR (X:Cx)(f:Value→Sem Value)(r:V→Hp→VK→Prop):Prop :=
 ∀ (pins:List (Addr×Obj)) (s:Shared) (σ:St) (H:Hp) (x:V) (v:Value) (Q:VK),Inv X pins σ H s→az x v→r x H Q →
   wpAny (model X.prog X.w) X.A (f v) (EP X pins σ Q) X.xe s
def bQ (X:Cx)(f:Value)(r:List V→Hp→VK→Prop):Prop :=
 ∀ (pins:List (Addr×Obj)) (s:Shared) (σ:St) (H:Hp) (xs:List V) (us:List Value) (Q:VK),Inv X pins σ H s→aB xs us→r xs H Q →
   wpAny (model X.prog X.w) X.A (call f us) (EP X pins σ Q) X.xe s
def tOp (r:R2)(ta tb:TE):TE:=fun σ H Q=>ta σ H fun x H1=>tb σ H1 fun y H2=>r x y H2 Q
def tUn (r:V→Hp→VK→Prop)(ta:TE):TE:=fun σ H Q=>ta σ H fun x H1=>r x H1 Q
def rI (C:Int→Int→Prop)(g:Int→Int→V):R2:=fun x y H Q=>∃ i j,x=.int i∧y=.int j∧C i j∧Q (g i j) H
def rI0 (g:Int→Int→V):R2:=fun x y H Q=>∃ i j,x=.int i∧y=.int j∧Q (g i j) H
def rU (g:Int→V):V→Hp→VK→Prop:=fun x H Q=>∃ i,x=.int i∧Q (g i) H
section
variable {X:Cx}{a b c:Expr}{ta tb tc:TE}{pos:Pos}
theorem tV (ha:PE X a ta)(hb:PE X b tb){pins:List (Addr×Obj)}{s:Shared}{σ:St}{H:Hp}{R:V→V→Hp→Prop}(I:Inv X pins σ H s)
 (h:ta σ H fun x H1=>tb σ H1 fun y H2=>R x y H2) {Q:Value→Shared→Prop} {f:Value→Value→Sem Value}
 (hf:∀ v u s2 x y H2,Inv X pins σ H2 s2→az x v→az y u→R x y H2→wpAny (model X.prog X.w) X.A (f v u) Q X.xe s2) :
 wpAny (model X.prog X.w) X.A (eval a X.env) (fun v s₁=>wpAny (model X.prog X.w) X.A (eval b X.env) (fun u s₂=>wpAny (model X.prog X.w) X.A (f v u) Q X.xe s₂) X.xe s₁) X.xe s:=by
 refine thn (ha pins s σ H _ I h) fun v s1 ⟨x,H1,I1,r1,q1⟩=>?_
 refine thn (hb pins s1 σ H1 _ I1 q1) fun u s2 ⟨y,H2,I2,r2,q2⟩=>?_
 exact hf v u s2 x y H2 I2 r1 r2 q2
theorem al {op:Operator}{r:R2}(ho:OpR X (binaryOp op) r)(ha:PE X a ta)(hb:PE X b tb):PE X (.BinOp a op b pos) (tOp r ta tb):=by
 intro pins s σ H Q I h
 exact wpAny_BinOp (tV ha hb I h fun v u s2 x y H2 I2 rx ry q=>ho pins s2 σ H2 x y v u Q I2 rx ry q)
theorem nL {op:UnaryOp}{r:V→Hp→VK→Prop}(ho:UnR X (unaryOp op) r)(ha:PE X a ta):PE X (.UnaryOp op a pos) (tUn r ta):=by
 intro pins s σ H Q I h
 exact UnaryOp_ (thn (ha pins s σ H _ I h) fun v s1 ⟨x,H1,I1,r1,q1⟩=>ho pins s1 σ H1 x v Q I1 r1 q1)
theorem opI {f:Value→Value→Sem Value}{C:Int→Int→Prop}{g:Int→Int→Int}
 (rule:∀ (i j:Int) (t u:Tok) (s:Shared) (Q:Value→Shared→Prop) (E:Value→Shared→Prop),C i j→Q (.int (g i j) s.toks) { s with toks:=s.toks+1 }→wpAny (model X.prog X.w) X.A (f (.int i t) (.int j u)) Q E s) :
 OpR X f (rI C fun i j=>.int (g i j)):=by
 intro pins s σ H x y v u Q I rx ry h
 obtain⟨i,j,rfl,rfl,hc,q⟩:=h
 obtain⟨t,rfl⟩:=rx
 obtain⟨t',rfl⟩:=ry
 exact rule i j t t' s _ _ hc ⟨.int (g i j),H,I.tok _,⟨_,rfl⟩,q⟩
theorem ut {f:Value→Value→Sem Value}{g:Int→Int→Int}
 (rule:∀ (i j:Int) (t u:Tok) (s:Shared) (Q:Value→Shared→Prop) (E:Value→Shared→Prop),Q (.int (g i j) s.toks) { s with toks:=s.toks+1 }→wpAny (model X.prog X.w) X.A (f (.int i t) (.int j u)) Q E s) :
 OpR X f (rI0 fun i j=>.int (g i j)):=by
 intro pins s σ H x y v u Q I rx ry h
 obtain⟨i,j,rfl,rfl,q⟩:=h
 obtain⟨t,rfl⟩:=rx
 obtain⟨t',rfl⟩:=ry
 exact rule i j t t' s _ _ ⟨.int (g i j),H,I.tok _,⟨_,rfl⟩,q⟩
theorem rH {f:Value→Value→Sem Value}{g:Int→Int→Bool}
 (rule:∀ (i j:Int) (t u:Tok) (s:Shared) (Q:Value→Shared→Prop) (E:Value→Shared→Prop),Q (.bool (g i j)) s→wpAny (model X.prog X.w) X.A (f (.int i t) (.int j u)) Q E s) :
 OpR X f (rI0 fun i j=>.bl (g i j)):=by
 intro pins s σ H x y v u Q I rx ry h
 obtain⟨i,j,rfl,rfl,q⟩:=h
 obtain⟨t,rfl⟩:=rx
 obtain⟨t',rfl⟩:=ry
 exact rule i j t t' s _ _ ⟨.bl (g i j),H,I,rfl,q⟩
def vh (i j:Int):Prop:=0<j∧j<1073741824
def vg (i j:Int):Prop:=0≤j∧j≤1000000∧i.natAbs<2 ^ 64
def tZ (i j:Int):Prop:=(-(2 ^ 64)<i∧i<2 ^ 64)∨(-(2 ^ 64)<j∧j<2 ^ 64)
theorem tZ.ok {i j:Int}(h:tZ i j):IntMulOk i j:=by
 rcases h with⟨h1,h2⟩ | ⟨h1,h2⟩
 ·exact .of_left (intBits_le_64 h1 h2)
 ·exact .of_right (intBits_le_64 h1 h2)
theorem bW:OpR X (binaryOp .Add) (rI0 fun i j=>.int (i+j)):=ut fun _ _ _ _ _ _ _ q=>add_int q
theorem eA:OpR X (binaryOp .Sub) (rI0 fun i j=>.int (i-j)):=ut fun _ _ _ _ _ _ _ q=>sub_int q
theorem dg:OpR X (binaryOp .Mult) (rI tZ fun i j=>.int (i*j)):=opI fun _ _ _ _ _ _ _ hc q=>mul_int q hc.ok
theorem bN:OpR X (binaryOp .FloorDiv) (rI vh fun i j=>.int (i / j)):=opI fun i j _ _ _ _ _ hc q=>by
 have h1:(0:Int)<j:=hc.1
 have h2:j<1073741824:=hc.2
 exact floordiv_int (by lia) (by rw[Int.fdiv_eq_ediv_of_nonneg i (by lia)];exact q) (.inl (PyProof.noPylong_small (by lia)))
theorem a9:OpR X (binaryOp .Mod) (rI (fun _ j=>0<j) fun i j=>.int (i % j)):=opI fun i j _ _ _ _ _ hc q=>by
 have h1:(0:Int)<j:=hc
 exact mod_int' (by lia) (by rw[Int.fmod_eq_emod_of_nonneg i (by lia)];exact q)
theorem mO:OpR X (binaryOp .Pow) (rI vg fun i j=>.int (i ^ j.toNat)):=opI fun _ _ _ _ _ _ _ hc q=>pow_int_small hc.1 hc.2.1 hc.2.2 q
theorem unI {f:Value→Sem Value}{g:Int→Int}
 (rule:∀ (i:Int) (t:Tok) (s:Shared) (Q:Value→Shared→Prop) (E:Value→Shared→Prop),Q (.int (g i) s.toks) { s with toks:=s.toks+1 }→wpAny (model X.prog X.w) X.A (f (.int i t)) Q E s) :
 UnR X f (rU fun i=>.int (g i)):=by
 intro pins s σ H x v Q I rx h
 obtain⟨i,rfl,q⟩:=h
 obtain⟨t,rfl⟩:=rx
 exact rule i t s _ _ ⟨.int (g i),H,I.tok _,⟨_,rfl⟩,q⟩
theorem jP:UnR X (unaryOp .USub) (rU fun i=>.int (-i)):=unI fun _ _ _ _ _ q=>neg_int q
end
def uk:V→V→Bool
 | .non,.non=>true | .non,.int _=>true | .int _,.non=>true | .non,.bl _=>true | .bl _,.non=>true | .non,.str _=>true | .str _,.non=>true
 | .int _,.int _=>true | .bl _,.bl _=>true | .str _,.str _=>true | .byt _,.byt _=>true
 | .int _,.str _=>true | .str _,.int _=>true | .bl _,.str _=>true | .str _,.bl _=>true
 | _,_=>false
def rEq:R2:=fun x y H Q=>uk x y=true∧Q (.bl (decide (x=y))) H
def rNe:R2:=fun x y H Q=>uk x y=true∧Q (.bl (!decide (x=y))) H
theorem nX {i j:Int}:decide (V.int i=V.int j)=(i == j):=by
 rw[Bool.eq_iff_iff]
 simp
theorem qO {i j:Bool}:decide (V.bl i=V.bl j)=(i == j):=by
 rw[Bool.eq_iff_iff]
 simp
theorem nW {i j:Str}:decide (V.str i=V.str j)=(i == j):=by
 rw[Bool.eq_iff_iff]
 simp
theorem nY {i j:Array UInt8}:decide (V.byt i=V.byt j)=(i.toList == j.toList):=by
 rw[Bool.eq_iff_iff]
 cases i
 cases j
 simp
section
variable {X:Cx}{a b c:Expr}{ta tb tc:TE}{pos:Pos}
theorem aK {pins:List (Addr×Obj)}{σ:St}{H:Hp}{s:Shared}{Q:VK}{k k':Bool}(I:Inv X pins σ H s)(q:Q (.bl k) H)(e:k=k'):EP X pins σ Q (.bool k') s:=by
 subst e
 exact⟨.bl k,H,I,rfl,q⟩
theorem dM:OpR X (compareOp .Eq) rEq:=by
 intro pins s σ H x y v u Q I rx ry h
 obtain⟨hs,q⟩:=h
 cases x with
 | non =>
   cases rx
   cases y with
   | non=>cases ry;exact PySem.EqNone.eq_none_none (aK I q (by simp))
   | bl j=>cases ry;exact PySem.EqNone.eq_none_bool (aK I q (by simp))
   | int j=>obtain⟨t',rfl⟩:=ry;exact PySem.EqNone.eq_none_int (aK I q (by simp))
   | str j=>obtain⟨t',rfl⟩:=ry;exact PySem.EqNone.eq_none_str (aK I q (by simp))
   | _=>exact absurd (show false=true from hs) Bool.false_ne_true
 | bl i =>
   cases rx
   cases y with
   | non=>cases ry;exact PySem.EqNone.eq_bool_none (aK I q (by simp))
   | bl j=>cases ry;exact eq_bool (aK I q qO)
   | str j=>obtain⟨t',rfl⟩:=ry;exact PySem.EqMixed.eq_bool_str (aK I q (by simp))
   | _=>exact absurd (show false=true from hs) Bool.false_ne_true
 | int i =>
   obtain⟨t,rfl⟩:=rx
   cases y with
   | non=>cases ry;exact PySem.EqNone.eq_int_none (aK I q (by simp))
   | int j=>obtain⟨t',rfl⟩:=ry;exact eq_int (aK I q nX)
   | str j=>obtain⟨t',rfl⟩:=ry;exact PySem.EqMixed.eq_int_str (aK I q (by simp))
   | _=>exact absurd (show false=true from hs) Bool.false_ne_true
 | str i =>
   obtain⟨t,rfl⟩:=rx
   cases y with
   | non=>cases ry;exact PySem.EqNone.eq_str_none (aK I q (by simp))
   | bl j=>cases ry;exact PySem.EqMixed.eq_str_bool (aK I q (by simp))
   | int j=>obtain⟨t',rfl⟩:=ry;exact PySem.EqMixed.eq_str_int (aK I q (by simp))
   | str j=>obtain⟨t',rfl⟩:=ry;exact eq_str (aK I q nW)
   | _=>exact absurd (show false=true from hs) Bool.false_ne_true
 | byt i =>
   obtain⟨t,rfl⟩:=rx
   cases y with
   | byt j=>obtain⟨t',rfl⟩:=ry;exact PySem.W.eq_bytes (aK I q nY)
   | _=>exact absurd (show false=true from hs) Bool.false_ne_true
 | _=>cases y <;> exact absurd (show false=true from hs) Bool.false_ne_true
theorem sE:OpR X (compareOp .NotEq) rNe:=by
 intro pins s σ H x y v u Q I rx ry h
 obtain⟨hs,q⟩:=h
 cases x with
 | non =>
   cases rx
   cases y with
   | non=>cases ry;exact PySem.EqNone.ne_none_none (aK I q (by simp))
   | bl j=>cases ry;exact PySem.EqNone.ne_none_bool (aK I q (by simp))
   | int j=>obtain⟨t',rfl⟩:=ry;exact PySem.EqNone.ne_none_int (aK I q (by simp))
   | str j=>obtain⟨t',rfl⟩:=ry;exact PySem.EqNone.ne_none_str (aK I q (by simp))
   | _=>exact absurd (show false=true from hs) Bool.false_ne_true
 | bl i =>
   cases rx
   cases y with
   | non=>cases ry;exact PySem.EqNone.ne_bool_none (aK I q (by simp))
   | bl j=>cases ry;exact ne_bool (aK I q (congrArg not qO))
   | str j=>obtain⟨t',rfl⟩:=ry;exact PySem.EqMixed.ne_bool_str (aK I q (by simp))
   | _=>exact absurd (show false=true from hs) Bool.false_ne_true
 | int i =>
   obtain⟨t,rfl⟩:=rx
   cases y with
   | non=>cases ry;exact PySem.EqNone.ne_int_none (aK I q (by simp))
   | int j=>obtain⟨t',rfl⟩:=ry;exact ne_int (aK I q (congrArg not nX))
   | str j=>obtain⟨t',rfl⟩:=ry;exact PySem.EqMixed.ne_int_str (aK I q (by simp))
   | _=>exact absurd (show false=true from hs) Bool.false_ne_true
 | str i =>
   obtain⟨t,rfl⟩:=rx
   cases y with
   | non=>cases ry;exact PySem.EqNone.ne_str_none (aK I q (by simp))
   | bl j=>cases ry;exact PySem.EqMixed.ne_str_bool (aK I q (by simp))
   | int j=>obtain⟨t',rfl⟩:=ry;exact PySem.EqMixed.ne_str_int (aK I q (by simp))
   | str j=>obtain⟨t',rfl⟩:=ry;exact ne_str (aK I q (congrArg not nW))
   | _=>exact absurd (show false=true from hs) Bool.false_ne_true
 | byt i =>
   obtain⟨t,rfl⟩:=rx
   cases y with
   | byt j=>obtain⟨t',rfl⟩:=ry;exact PySem.W.ne_bytes (aK I q (congrArg not nY))
   | _=>exact absurd (show false=true from hs) Bool.false_ne_true
 | _=>cases y <;> exact absurd (show false=true from hs) Bool.false_ne_true
theorem lw:OpR X (compareOp .Lt) (rI0 fun i j=>.bl (decide (i<j))):=rH fun _ _ _ _ _ _ _ q=>lt_int q
theorem sF:OpR X (compareOp .LtE) (rI0 fun i j=>.bl (decide (i≤j))):=rH fun _ _ _ _ _ _ _ q=>le_int q
theorem nN:OpR X (compareOp .Gt) (rI0 fun i j=>.bl (decide (j<i))):=rH fun _ _ _ _ _ _ _ q=>gt_int q
theorem ur:OpR X (compareOp .GtE) (rI0 fun i j=>.bl (decide (j≤i))):=rH fun _ _ _ _ _ _ _ q=>ge_int q
theorem aN (b:Expr){op:CmpOp}(h:op≠.In:=by decide)(h2:op≠.NotIn:=by decide):behindInMarks op b=false:=by
 have e1:(op == CmpOp.In)=false:=by cases op <;> first | rfl | exact absurd rfl h
 have e2:(op == CmpOp.NotIn)=false:=by cases op <;> first | rfl | exact absurd rfl h2
 cases b <;> simp[behindInMarks,e1,e2]
theorem eT {op:CmpOp}{r:R2}(ho:OpR X (compareOp op) r)(ha:PE X a ta)(hb:PE X b tb)(hm:behindInMarks op b=false):PE X (.Compare a [op] [b] pos) (tOp r ta tb):=by
 intro pins s σ H Q I h
 exact wpAny_Compare1 (tV ha hb I h fun v u s2 x y H2 I2 rx ry q=>ho pins s2 σ H2 x y v u Q I2 rx ry q) hm
def t8 (t:TE):TT:=fun σ H Q=>t σ H fun x H'=>∃ k,x=.bl k∧Q k H'
theorem aH {op:CmpOp}{r:R2}(ho:OpR X (compareOp op) r)(ha:PE X a ta)(hb:PE X b tb)(hm:behindInMarks op b=false):PT X (.Compare a [op] [b] pos) (t8 (tOp r ta tb)):=by
 intro pins s σ H Q I h
 refine wpAny_isTrue_Compare1 (thn (ha pins s σ H _ I h) fun v s1 ⟨x,H1,I1,r1,q1⟩=>thn (hb pins s1 σ H1 _ I1 q1) fun u s2 ⟨y,H2,I2,r2,q2⟩ =>
  thn (ho pins s2 σ H2 x y v u _ I2 r1 r2 q2) fun c s3 ⟨z,H3,I3,r3,k,e,q3⟩=>?_) hm
 subst e
 cases r3
 exact wpAny_truthy_bool ⟨H3,I3,q3⟩
def sO (r r':R2)(ta tb tc:TE):TE:=fun σ H Q=>ta σ H fun x H1=>tb σ H1 fun y H2=>r x y H2 fun z H3=>∃ k,z=.bl k ∧
 (if k=true then tc σ H3 fun w' H4=>r' y w' H4 Q else Q (.bl false) H3)
theorem qk {op op':CmpOp}{r r':R2}(ho:OpR X (compareOp op) r)(ho':OpR X (compareOp op') r')(ha:PE X a ta)(hb:PE X b tb)(hc:PE X c tc)
 (hm:lastMarks [op,op'] [b,c]=false:=by with_unfolding_all rfl):PE X (.Compare a [op,op'] [b,c] pos) (sO r r' ta tb tc):=by
 intro pins s σ H Q I h
 refine Compare_chain (thn (ha pins s σ H _ I h) fun v s1 ⟨x,H1,I1,r1,q1⟩=>chain_link (thn (hb pins s1 σ H1 _ I1 q1) fun u s2 ⟨y,H2,I2,r2,q2⟩ =>
  thn (ho pins s2 σ H2 x y v u _ I2 r1 r2 q2) fun d s3 ⟨z,H3,I3,r3,k,e,q3⟩=>?_)) hm
 subst e
 cases r3
 refine wpAny_truthy_bool ?_
 cases k with
 | false=>exact ite_ff ⟨.bl false,H3,I3,rfl,q3⟩
 | true=>exact ite_tt (chain_last (thn (hc pins s3 σ H3 _ I3 q3) fun w' s4 ⟨z',H4,I4,r4,q4⟩=>ho' pins s4 σ H4 y z' u w' Q I4 r2 r4 q4))
theorem mX:(sizeLine:Nat)<2 ^ 63:=by rw[sizeLine_eq];decide
theorem dL {x:V}{us:List Value}(r:aB [x] us):∃ u,us=[u]∧az x u:=by
 cases r with
 | cons r1 r2=>cases r2;exact⟨_,rfl,r1⟩
theorem cS {x y:V}{us:List Value}(r:aB [x,y] us):∃ u w',us=[u,w']∧az x u∧az y w':=by
 cases r with
 | cons r1 r2 =>
   cases r2 with
   | cons r3 r4=>cases r4;exact⟨_,_,rfl,r1,r3⟩
theorem pF (hc:X.calm=true):bQ X (.builtin "max") (fun xs H Q=>∃ i j,xs=[.int i,.int j]∧Q (.int (if j>i then j else i)) H):=by
 intro pins s σ H xs us Q I r h
 obtain⟨i,j,rfl,q⟩:=h
 obtain⟨u,w',rfl,⟨t,rfl⟩,⟨t',rfl⟩⟩:=cS r
 refine max_two_ints (I.ok.hd hc) fun h' tk k=>⟨_,H,I.kept k,?_,q⟩
 by_cases hj:j>i
 ·rw[if_pos hj,if_pos hj];exact⟨_,rfl⟩
 ·rw[if_neg hj,if_neg hj];exact⟨_,rfl⟩
theorem pG:bQ X (.type "int") (fun xs H Q=>(∃ i,xs=[.int i]∧Q (.int i) H)∨∃ k,xs=[.bl k]∧Q (.int (if k then 1 else 0)) H):=by
 intro pins s σ H xs us Q I r h
 rcases h with⟨i,rfl,q⟩ | ⟨k,rfl,q⟩
 ·obtain⟨u,rfl,t,rfl⟩:=dL r
  exact call_int_int ⟨.int i,H,I,⟨_,rfl⟩,q⟩
 ·obtain⟨u,rfl,r1⟩:=dL r
  cases r1
  exact call_int_bool ⟨.int (if k then 1 else 0),H,I.tok _,⟨_,rfl⟩,q⟩
end
end L2
namespace L2
open PySem PySem.Spec PyProof.Rows
structure tY (h:Heap)(x dx C:Addr)(mA:Str→Option Value):Prop where
 obj:h.get? x=some (PySem.W.instObj C dx)
 ns:h.Ns1 dx mA
 ne:dx≠x
theorem oV {h:Heap}{dx:Addr}{mA:Str→Option Value}(n:h.Ns1 dx mA):∃ od,h.get? dx=some od∧∀ name,PySem.W.lookIn name od=some (mA name):=by
 obtain⟨o,es,ep,ho,hd,hk,_,hm⟩:=n
 refine⟨o,ho,fun name=>?_⟩
 have e:=hm name
 unfold nsFind findBy at e
 rw[←Array.find?_toList] at e
 unfold PySem.W.lookIn
 rw[hd]
 dsimp only
 split
 ·rename_i y q
  rw[q] at e
  exact congrArg some e
 ·rename_i q
  rw[q] at e
  have a:es.toList.any (·.refKey)=false:=by
   rw[List.any_eq_false]
   intro y hy
   obtain⟨z,t,hkey⟩:=hk y (Array.mem_toList_iff.mp hy)
   simp[DictEntry.refKey,hkey]
  have a':¬ es.toList.any (·.refKey)=true:=by rw[a];exact Bool.false_ne_true
  rw[if_neg a']
  exact congrArg some e
theorem tY.look {h:Heap}{x dx C:Addr}{mA:Str→Option Value}(I:tY h x dx C mA):∃ od,PySem.W.InstAt h x (PySem.W.instObj C dx) C (some od)∧∀ name,PySem.W.lookIn name od=some (mA name) :=
 let ⟨od,ho,hl⟩:=oV I.ns
 ⟨od,⟨I.obj,rfl,rfl,ho⟩,hl⟩
theorem gq.some_of {v:V}{o:Option Value}(r:gq (some v) o):∃ u,o=some u∧az v u:=by
 cases o with
 | none=>exact (show False from r).elim
 | some u=>exact⟨u,rfl,r⟩
section
variable {P:Program}{w:World}{H H':Hp}{h h':Heap}{a C dx:Addr}{fs fs':List (Str×V)}
theorem rW (hok:HOk P w H h)(e:H a=some (.ins C dx fs)):∃ mA,tY h a dx C mA∧(∀ f,gq (fs.lookup f) (mA f))∧PySem.Within mA (fs.map (·.1))∧fs.length≤1000∧H dx=some (.own a):=by
 obtain⟨d,z,ne,ob,mA,n,r,q⟩:=(show aS P w H h a (.ins C dx fs) from hok a _ e)
 exact⟨mA,⟨ob,n,ne⟩,r,q,z,d⟩
end
structure Cls (K:PySem.W.Frag)(C:Addr):Prop where
 pg:PySem.W.plainGet K C Str.empty=true
 hd:PySem.W.hasDictIn K C=true
 po:PySem.W.plainOver K C=true
 sa:PySem.W.findIn K (.ref C) "__setattr__" = some (some (.builtin "object.__setattr__"))
theorem Cls.get {K:PySem.W.Frag}{C:Addr}(c:Cls K C)(f:Str):PySem.W.plainGet K C f=true:=c.pg
section
variable {X:Cx}{pins:List (Addr×Obj)}{σ:St}{H:Hp}{s:Shared}{A:Around}{E:Value→Shared→Prop}{Q:Value→Shared→Prop}{c:Value}{b:Bool}
inductive gn (K:PySem.W.Frag) (H:Hp):V→Value→Prop where
 | non:gn K H .non (.type "NoneType")
 | bl (x:Bool):gn K H (.bl x) (.type "bool")
 | int (i:Int):gn K H (.int i) (.type "int")
 | str (x:Str):gn K H (.str x) (.type "str")
 | flt (x:UInt64):gn K H (.flt x) (.type "float")
 | lst {a:Addr} {xs:List V} (e:H a=some (.lst xs)):gn K H (.ref a) (.type "list")
 | frz {a:Addr} {o:Obj} {xs:List V} (e:H a=some (.frz o (.lst xs))):gn K H (.ref a) (.type "list")
 | tup {a:Addr} {xs:List V} (e:H a=some (.tup xs)):gn K H (.ref a) (.type "tuple")
 | dK {a:Addr} {kvs:List (Key×V)} (e:H a=some (.dK kvs)):gn K H (.ref a) (.type "dict")
 | dT {a:Addr} {kvs:List (List Key×V)} (e:H a=some (.dT kvs)):gn K H (.ref a) (.type "dict")
 | ins {a C dx:Addr} {fs:List (Str×V)} (e:H a=some (.ins C dx fs)) (cl:Cls K C) (ha:PySem.W.findIn K (.ref C) "__class__" = some (some (.builtin "object.__class__")))
  (hn:PySem.W.specialIn K (.builtin "object.__class__") "__get__" = some (some (.builtin "getset_descriptor.__get__"))) (htk:PySem.W.takesIn K (.builtin "object.__class__")=some true)
  (hm:PySem.W.mroIn K C (.type "object")=some true):gn K H (.ref a) (.ref C)
theorem o7 {x:V}{u t:Value}(I:Inv X pins σ H s)(rx:az x u)(ty:gn X.K H x t)(e:PySem.W.kitOne X.K t c=some b)(h:∀ tk,Q (.bool b) { s with toks:=tk }) :
 wpAny (model X.prog X.w) A (call (.builtin "isinstance") [u,c]) Q E s:=by
 cases ty with
 | non=>cases (show u=Value.none from rx);exact PySem.W.kia_one PySem.W.kitx_none I.kIn True.intro e (fun z=>nomatch z) h
 | bl y=>cases (show u=Value.bool y from rx);exact PySem.W.kia_one PySem.W.kitx_bool I.kIn True.intro e (fun z=>nomatch z) h
 | int i=>obtain⟨t,q⟩:=(show ∃ t,u=Value.int i t from rx);cases q;exact PySem.W.kia_one PySem.W.kitx_int I.kIn True.intro e (fun z=>nomatch z) h
 | str y=>obtain⟨t,q⟩:=(show ∃ t,u=Value.str y t from rx);cases q;exact PySem.W.kia_one PySem.W.kitx_str I.kIn True.intro e (fun z=>nomatch z) h
 | flt y=>obtain⟨t,q⟩:=(show ∃ t,u=Value.float y t from rx);cases q;exact PySem.W.kia_one PySem.W.kitx_float I.kIn True.intro e (fun z=>nomatch z) h
 | @lst a xs ea =>
   cases (show u=Value.ref a from rx)
   obtain⟨_,_,n,_,h1⟩:=(show aS X.prog X.w H s.heap a (.lst xs) from I.hok a _ ea)
   exact PySem.W.kia_one PySem.W.kitx_list I.kIn ⟨_,h1,rfl⟩ e (fun z=>nomatch z) h
 | @frz a ob xs ea =>
   cases (show u=Value.ref a from rx)
   obtain⟨_,_,_,n,_,h1⟩:=(show aS X.prog X.w H s.heap a (.frz ob (.lst xs)) from I.hok a _ ea)
   exact PySem.W.kia_one PySem.W.kitx_list I.kIn ⟨_,h1,rfl⟩ e (fun z=>nomatch z) h
 | @tup a xs ea =>
   cases (show u=Value.ref a from rx)
   obtain⟨_,_,_,p⟩:=(show aS X.prog X.w H s.heap a (.tup xs) from I.hok a _ ea)
   obtain⟨o,h1,h2,_⟩:=p
   exact PySem.W.kia_one PySem.W.kitx_tuple I.kIn ⟨o,h1,h2⟩ e (fun z=>nomatch z) h
 | @dK a kvs ea =>
   cases (show u=Value.ref a from rx)
   obtain⟨_,_,vs,_,p⟩:=(show aS X.prog X.w H s.heap a (.dK kvs) from I.hok a _ ea)
   obtain⟨o,es,ep,h1,h2,_⟩:=p
   exact PySem.W.kia_one PySem.W.kitx_dict I.kIn ⟨o,h1,h2.1⟩ e (fun z=>nomatch z) h
 | @dT a kvs ea =>
   cases (show u=Value.ref a from rx)
   obtain⟨_,_,xs,_,o,es,ep,h1,h2,_⟩:=(show aS X.prog X.w H s.heap a (.dT kvs) from I.hok a _ ea)
   exact PySem.W.kia_one PySem.W.kitx_dict I.kIn ⟨o,h1,h2.1⟩ e (fun z=>nomatch z) h
 | @ins a C dx fs ea cl ha hn htk hm =>
   cases (show u=Value.ref a from rx)
   obtain⟨mA,O,_⟩:=rW I.hok ea
   obtain⟨od,J,_⟩:=O.look
   exact PySem.W.kia_one (PySem.W.kitx_own (cl.get _) cl.hd ha hn htk hm) I.kIn J e (fun z=>nomatch z) h
end
end L2
namespace L2
open PySem PySem.Spec PyProof.Rows
structure dh (k:Nat)(A:Around):Prop where
 hd:A.handled=none
 dp:A.depth+3*k+5<recursionLimit
 un:A.units+16*k+200<cLine
theorem dh.mono {j k:Nat}{A:Around}(r:dh k A)(h:j≤k):dh j A:=⟨r.hd,by have:=r.dp;lia,by have:=r.un;lia⟩
theorem dh.deeper {k:Nat}{A:Around}(r:dh (k+1) A)(env:Env):dh k (A.deeper env) :=
 ⟨r.hd,by have:=r.dp;show A.depth+1+3*k+5<_;lia,by have:=r.un;show A.units+3+16*k+200<_;lia⟩
theorem dh.depth {k:Nat}{A:Around}(r:dh k A):A.depth<recursionLimit:=by have:=r.dp;lia
theorem dh.units {k:Nat}{A:Around}(r:dh k A):A.units+64<cLine:=by have:=r.un;lia
def mD:TA:=fun _ H Q=>Q [] H
def kR (ta:TE)(tr:TA):TA:=fun σ H Q=>ta σ H fun x H1=>tr σ H1 fun xs H2=>Q (x :: xs) H2
section
variable {X:Cx}{e:Expr}{es:List Expr}{te:TE}{t:TA}{pos:Pos}
theorem ae:PA X [] mD:=fun _ _ _ _ H Q I h=>Calls.spliced_nil ⟨[],H,I,.nil,h⟩
theorem aa (ha:PE X e te)(hr:PA X es t)(hs:starEach (e :: es) X.env=(false,eval e X.env) :: starEach es X.env:=by rfl):PA X (e :: es) (kR te t):=by
 intro pos pins s σ H Q I h
 rw[hs]
 show wpAny _ _ (spliced ((false,eval e X.env) :: backTo pos (starEach es X.env))) _ _ s
 refine Calls.spliced_cons (thn (ha pins s σ H _ I h) fun u s1 ⟨x,H1,I1,r1,q1⟩=>?_)
 exact thn (hr pos pins s1 σ H1 _ I1 q1) fun us s2 ⟨xs,H2,I2,r2,q2⟩=>⟨x :: xs,H2,I2,.cons r1 r2,q2⟩
end
abbrev Sp:=List V→Hp→VK→XK→Prop
abbrev CXT:=List Env→Hp→Shared→XK→Value→Shared→Prop
structure sk (P:Program)(w:World)(K:PySem.W.Frag)(mg:Str→Option Value)(base:Heap)(A:Around)(outer:List Env)(s:Shared)(H:Hp):Prop where
 frames:A.frames=some outer
 mod:Mod K mg base
 bs:∀ b o,base.get? b=some o→s.heap.get? b=some o∧H b=none
 bsz:base.objs.size≤s.heap.objs.size
 funs:s.heap.FunFrames base outer
 frf:∀ b∈frs outer,H b=none
 hok:HOk P w H s.heap
 bare:AllBare s.gens
def CE (outer:List Env)(P:Program)(w:World)(H:Hp)(s:Shared)(Q:VK)(u:Value)(s':Shared):Prop :=
 ∃ v H',s'.os=s.os∧AllBare s'.gens∧Un (frs outer) [] H H' s.heap s'.heap∧HOk P w H' s'.heap∧az v u∧Q v H'
def CR (CX:CXT)(outer:List Env)(P:Program)(w:World)(H:Hp)(s:Shared)(Q:VK)(E:XK)(r:Result)(s':Shared):Prop :=
 match r with
 | .ok (.ret u)=>CE outer P w H s Q u s'
 | .ok _=>False
 | .error e=>CX outer H s E e s'
structure bh (P:Program)(w:World)(K:PySem.W.Frag)(mg:Str→Option Value)(base:Heap)(CX:CXT)(k:Nat)(f:Addr)(fd:FuncData)(ps:List Str)(sp:Sp):Prop where
 len:∀ vs H Q E,sp vs H Q E→vs.length=ps.length
 run:∀ (A:Around) (outer:List Env) (s:Shared) (H:Hp) (args:Args) (us:List Value) (vs:List V) (Q:VK) (E:XK),dh k A→sk P w K mg base A outer s H→BindsTo s fd args (ps.zip us)→aB vs us→sp vs H Q E →
  codeAny (model P w) A (.call (.ref f) args) (CR CX outer P w H s Q E) s
section
variable {X:Cx}{pins:List (Addr×Obj)}{σ:St}{H:Hp}{s s':Shared}
theorem Inv.env0 (I:Inv X pins σ H s):sk X.prog X.w X.K X.mg X.base X.A X.stack s H :=
 ⟨I.ok.frames,I.ok.mod,I.bs,Nat.le_trans I.ok.bsz I.sz,I.stack,I.stkFree,I.hok,I.bare⟩
theorem Inv.after {Q:VK}{u:Value}(I:Inv X pins σ H s)(h:CE X.stack X.prog X.w H s Q u s'):EP X pins σ Q u s':=by
 obtain⟨v,H',os,bare,un,hok,r,q⟩:=h
 obtain⟨hh,g,d,t,os'⟩:=s'
 obtain rfl:os'=s.os:=os
 exact⟨v,H',I.call (h':=hh) (g':=g) (d':=d) (t':=t) (ch:=[]) un hok bare (fun b z=>absurd z (by simp)),r,q⟩
end
def sq (sp:Sp)(dvs:List V)(E:XK)(t:TA):TE:=fun σ H Q=>t σ H fun vs H1=>sp (vs++dvs) H1 Q E
def jN (K:PySem.W.Frag)(fd:FuncData)(ps:List Str)(ds:List Value):Prop :=
 ∀ (s:Shared) (us:List Value),K.In s.heap→(us++ds).length=ps.length→BindsTo s fd ⟨us,[]⟩ (ps.zip (us++ds))
theorem jN.all {K:PySem.W.Frag}{fd:FuncData}{ps:List Str}(h:∀ us:List Value,us.length=ps.length→bindArgs fd ⟨us,[]⟩=pure (ps.zip us)):jN K fd ps []:=fun s us _ hl=>by
 rw[append_nil] at hl ⊢
 exact .of_eq (h us hl)
def ng (CX:CXT)(X:Cx)(E:XK):Prop:=∀ (pins:List (Addr×Obj)) (σ:St) (H:Hp) (s:Shared) (e:Value) (s':Shared),Inv X pins σ H s→CX X.stack H s E e s'→X.xe e s'
section
variable {X:Cx}{CX:CXT}{k:Nat}{f C:Addr}{fd:FuncData}{ps:List Str}{sp:Sp}{dvs:List V}{ds:List Value}{E:XK}{x m:Str}{p pos apos:Pos}{e o:Expr}{es:List Expr}{ta:TE}{t:TA}
theorem sT {pins:List (Addr×Obj)}{σ:St}{H:Hp}{s:Shared}{Q:VK}{us:List Value}{vs:List V}(F:bh X.prog X.w X.K X.mg X.base CX k f fd ps sp)(hr:dh k X.A)(hb:jN X.K fd ps ds)(hd:aB dvs ds)(hx:ng CX X E)
 (I:Inv X pins σ H s) (r:aB vs us) (h:sp (vs++dvs) H Q E):wpAny (model X.prog X.w) X.A (call (.ref f) us) (EP X pins σ Q) X.xe s:=by
 have r2:aB (vs++dvs) (us++ds):=r.append hd
 have hl:(us++ds).length=ps.length:=by rw[←r2.length];exact F.len _ _ _ _ h
 refine wpAny_call (codeAny_mono (F.run X.A X.stack s H ⟨us,[]⟩ (us++ds) (vs++dvs) Q E hr I.env0 (hb s us I.kIn hl) r2 h) fun r s' hq=>?_)
 cases r with
 | error e=>exact hx pins σ H s e s' I hq
 | ok fl =>
   cases fl with
   | ret u=>exact I.after hq
   | next=>exact False.elim hq
   | brk=>exact False.elim hq
   | cont=>exact False.elim hq
theorem rE (F:bh X.prog X.w X.K X.mg X.base CX k f fd ps sp)(hr:dh k X.A)(hg:Gl X x)(hm:X.mg x=some (.ref f))(hk:PySem.W.keepIn X.K (.ref f)=true)(hb:jN X.K fd ps ds)(hd:aB dvs ds)(hx:ng CX X E)
 (ha:PA X (e :: es) t) (hdb:(x == ("__debug__" : Str))=false:=by decide) (he:starEach (e :: es) X.env=(false,eval e X.env) :: starEach es X.env:=by rfl) (hpl:(backTo pos (starEach es X.env)).any (·.1)=false:=by rfl) :
 PE X (.Call (.Name x p) (e :: es) [] pos) (sq sp dvs E t):=by
 intro pins s σ H Q I h
 refine wpAny_Call_Name_kw (rS I hg hm ?_ hdb)
 refine PySem.W.callWith_K (h₀:=X.base) I.ok.mod.kin hk (thn (ha pos pins s σ H _ I h) fun us s1 ⟨vs,H1,I1,r,q⟩=>⟨I1.kIn,?_⟩) he hpl
 exact sT F hr hb hd hx I1 r q
end
structure au (N P:List Str)(sc:Scope):Prop where
 kind:sc.kind=.function
 co:sc.isCoroutine=false
 gen:sc.isGenerator=false
 nd:N.Nodup
 pre:N.take P.length=P
 par:∀ x∈P,sc.names.lookup x=some .local∨sc.names.lookup x=some .cell
 nofree:∀ y∈sc.names,y.2≠.free
theorem jH {kindOf:Str→Option NameKind}{x:Str}:∀ {binds:List (Str×Value)} {m:Str→Option Value},(∀ v,(x,v)∉binds)→bindL kindOf binds m x=m x
 | [],_,_=>rfl
 | (n,v) :: r,m,h=>by
   unfold bindL
   rw[jH fun w hw=>h w (mem_cons_of_mem _ hw)]
   split
   ·have:x≠n:=by rintro rfl;exact h v mem_cons_self
    simp[this]
   ·rfl
theorem jJ {kindOf:Str→Option NameKind}{x:Str}:∀ {binds:List (Str×Value)} {m:Str→Option Value},(∀ v,(x,v)∉binds)→bindC kindOf binds m x=m x
 | [],_,_=>rfl
 | (n,v) :: r,m,h=>by
   unfold bindC
   rw[jJ fun w hw=>h w (mem_cons_of_mem _ hw)]
   split
   ·rfl
   ·have:x≠n:=by rintro rfl;exact h v mem_cons_self
    simp[this]
theorem jI {kindOf:Str→Option NameKind}{x:Str}{v:Value}:∀ {P:List Str} {vs:List Value} {i:Nat} {m:Str→Option Value},P.Nodup→P[i]? = some x→vs[i]? = some v→kindOf x=some .local →
 bindL kindOf (P.zip vs) m x=some v
 | [],_,_,_,_,h,_,_=>by simp at h
 | _ :: _,[],_,_,_,_,h,_=>by simp at h
 | p :: P,w :: vs,0,m,nd,h1,h2,hk=>by
   simp at h1 h2;subst h1;subst h2
   show bindL kindOf ((p,w) :: P.zip vs) m p=_
   unfold bindL
   rw[jH fun v hv=>(nodup_cons.mp nd).1 (of_mem_zip hv).1,if_pos hk]
   simp
 | p :: P,w :: vs,i+1,m,nd,h1,h2,hk=>by
   show bindL kindOf ((p,w) :: P.zip vs) m x=_
   unfold bindL
   exact jI (i:=i) (nodup_cons.mp nd).2 (by simpa using h1) (by simpa using h2) hk
theorem jK {kindOf:Str→Option NameKind}{x:Str}{v:Value}:∀ {P:List Str} {vs:List Value} {i:Nat} {m:Str→Option Value},P.Nodup→P[i]? = some x→vs[i]? = some v→kindOf x≠some .local →
 bindC kindOf (P.zip vs) m x=some v
 | [],_,_,_,_,h,_,_=>by simp at h
 | _ :: _,[],_,_,_,_,h,_=>by simp at h
 | p :: P,w :: vs,0,m,nd,h1,h2,hk=>by
   simp at h1 h2;subst h1;subst h2
   show bindC kindOf ((p,w) :: P.zip vs) m p=_
   unfold bindC
   rw[jJ fun v hv=>(nodup_cons.mp nd).1 (of_mem_zip hv).1,if_neg hk]
   simp
 | p :: P,w :: vs,i+1,m,nd,h1,h2,hk=>by
   show bindC kindOf ((p,w) :: P.zip vs) m x=_
   unfold bindC
   exact jK (i:=i) (nodup_cons.mp nd).2 (by simpa using h1) (by simpa using h2) hk
def gt (N:List Str)(vs:List V):St:=vs.map some++List.replicate (N.length-vs.length) none
def pE (CX:CXT)(P:Program)(w:World)(K:PySem.W.Frag)(mg:Str→Option Value)(base:Heap)(N:List Str)(qual:Str)(scope:Scope)(f:Addr)(cd:Value)(A:Around)(outer:List Env)(s:Shared)(H:Hp)(E:XK):Cx where
 prog:=P
 w:=w
 K:=K
 mg:=mg
 base:=base
 A:=A.deeper (envOfC qual scope s.heap.objs.size f cd)
 N:=N
 s₀:=s
 H₀:=H
 env:=envOfC qual scope s.heap.objs.size f cd
 outer:=outer
 stack:=envOfC qual scope s.heap.objs.size f cd :: outer
 ex:=[]
 calm:=true
 fn:=fun _=>true
 pn:=[]
 xe:=fun e s'=>wpAny (model P w) (A.deeper (envOfC qual scope s.heap.objs.size f cd)) (leaving (envOfC qual scope s.heap.objs.size f cd) e) (fun _ s''=>CX outer H s E e s'') (fun e' s''=>CX outer H s E e' s'') s'
theorem mh {sc:Scope}{n:Nat}{x:Str}(h:sc.names.lookup x=some .cell):∃ c,(cellsFrom n sc.names []).lookup x=some c:=by
 have q:=PySem.W.cellsFrom_some sc.names n [] (.inl h)
 exact Option.isSome_iff_exists.mp q
theorem o8 {CX:CXT}{P:Program}{w:World}{K:PySem.W.Frag}{mg:Str→Option Value}{base:Heap}{N ps:List Str}{qual:Str}{scope:Scope}{f:Addr}{cd:Value}{A:Around}{outer:List Env}{s s1:Shared}{H:Hp}{E:XK}{us:List Value}{vs:List V}
 (S:au N ps scope) (hd:A.handled=none) (e0:sk P w K mg base A outer s H) (hl:vs.length=ps.length) (r:aB vs us)
 (x:InCallC s s.heap.objs.size (bindL (envOfC qual scope s.heap.objs.size f cd).kindOf (ps.zip us) fun _=>none) (cellsFrom (s.heap.objs.size+1) scope.names []) (bindC (envOfC qual scope s.heap.objs.size f cd).kindOf (ps.zip us) fun _=>none) s1) :
 Inv (pE CX P w K mg base N qual scope f cd A outer s H E) [] (gt N vs) H s1:=by
 have hpl:ps.length≤N.length:=by have:=congrArg List.length S.pre;rw[length_take] at this;lia
 obtain⟨h1,tk,rfl,hk⟩:=x.done
 have noA:∀ b:Addr,b∉(pE CX P w K mg base N qual scope f cd A outer s H E).ex:=fun b z=>absurd (show b∈([]:List Addr) from z) (by simp)
 refine⟨⟨e0.mod,S.kind,rfl,rfl,Nat.le_refl _,fun y z c h1 h2=>?_,fun y hy=>?_,fun y c _ h=>?_,fun _=>hd,Around.frames_deeper e0.frames,.inr ⟨rfl,rfl⟩,fun b z=>absurd z (noA b),e0.bs,e0.bsz,fun b _ _=>noA b,fun b z=>absurd z (noA b),e0.funs,e0.frf⟩,
  rfl,e0.bare,Un.kept hk,⟨_,x.toInCall.ns,fun i y v h1 h2 h3=>?_⟩,fun y c h=>⟨_,x.cell y c h⟩,e0.hok.fresh (Nat.le_refl _),fun y c h=>?_,fun p hp=>absurd (show p∈([]:List (Addr×Obj)) from hp) (by simp),e0.hok.kept hk,?_⟩
 ·exact name_of_addr x.apart (PySem.mem_of_lookup h1) (PySem.mem_of_lookup h2)
 ·have hy:scope.names.lookup y=some .cell∨scope.names.lookup y=some .free:=hy
  rcases hy with hy | hy
  ·exact mh hy
  ·exact absurd rfl (S.nofree _ (PySem.mem_of_lookup hy))
 ·exact Nat.le_of_lt (x.above y c (PySem.mem_of_lookup h))
 ·have hi:i<vs.length:=by
   unfold gt at h2
   by_cases hi:i<vs.length
   ·exact hi
   ·rw[getElem?_append_right (by simpa using hi)] at h2
    rw[List.getElem?_replicate] at h2
    split at h2 <;> cases h2
  have ha:vs[i]? = some v:=by
   unfold gt at h2
   rw[getElem?_append_left (by simpa using hi),getElem?_map] at h2
   cases e:vs[i]? with
   | none=>rw[e] at h2;cases h2
   | some a=>rw[e] at h2;cases h2;rfl
  obtain⟨u,hu,rv⟩:=r.get ha
  have hp:ps[i]? = some y:=by
   rw[←S.pre,List.getElem?_take_of_lt (by lia)];exact h1
  have ndP:ps.Nodup:=by rw[←S.pre];exact S.nd.sublist (List.take_sublist _ _)
  refine⟨u,rv,?_⟩
  rcases S.par y (mem_of_getElem? hp) with k | k
  ·exact .inl ⟨k,jI ndP hp hu k⟩
  ·obtain⟨c,e⟩:=mh (n:=s.heap.objs.size+1) k
   refine .inr ⟨.inl k,c,e,?_⟩
   have q:=x.cell y c e
   rw[jK ndP hp hu (by show scope.names.lookup y≠_;rw[k];decide)] at q
   exact q
 ·exact e0.hok.fresh (Nat.le_of_lt (x.above y c (PySem.mem_of_lookup h)))
 ·unfold gt
  show _=N.length
  rw[length_append,length_map,List.length_replicate]
  lia
theorem uA {CX:CXT}{P:Program}{w:World}{K:PySem.W.Frag}{mg:Str→Option Value}{base:Heap}{k:Nat}{f:Addr}{name qual:Str}{params:Arguments}{body:List Stmt}{scope:Scope}{dV kV doc pm cdv ct oc:Value}{an od:Option Addr}
 {osl:Array (Option Value)} {N ps:List Str} {sp:Sp} (lk:K.lookup f=some ⟨oc,od,.func (PySem.W.fnOf name qual params body scope dV kV doc pm an cdv ct),osl⟩) (hcd:PySem.W.codeIn K cdv qual=true) (S:au N ps scope)
 (len:∀ vs H Q E,sp vs H Q E→vs.length=ps.length)
 (hbody:∀ (A:Around) (outer:List Env) (s:Shared) (H:Hp) (vs:List V) (Q:VK) (E:XK),dh k (A.deeper (envOfC qual scope s.heap.objs.size f cdv))→sp vs H Q E →
  ∃ t,PSs (pE CX P w K mg base N qual scope f cdv A outer s H E) body t∧t { nx:=fun _ H'=>Q .non H',rt:=Q } (gt N vs) H) :
 bh P w K mg base CX (k+1) f (PySem.W.fnOf name qual params body scope dV kV doc pm an cdv ct) ps sp:=by
 refine⟨len,fun A outer s H args us vs Q E hr e0 hb r hsp=>?_⟩
 have hl:=len _ _ _ _ hsp
 have KX:K.In s.heap:=e0.mod.kin.keeps fun b o e=>(e0.bs b o e).1
 have lim:s.heap.NoLimit:=e0.mod.nolimit.keeps fun b o e=>(e0.bs b o e).1
 have hkind:∀ y∈ps.zip us,scope.names.lookup y.1=some .local∨(scope.names.lookup y.1=some .cell∧((cellsFrom (s.heap.objs.size+1) scope.names []).lookup y.1).isSome=true):=fun⟨n,v⟩ hy=>by
  rcases S.par n (of_mem_zip hy).1 with q | q
  ·exact .inl q
  ·exact .inr ⟨q,PySem.W.cellsFrom_some _ _ _ (.inl q)⟩
 refine codeAny_call_function hr.depth (KX _ _ lk) rfl S.co S.gen rfl (PySem.W.codeRec_of KX hcd) (hb _ _ _ _ ?_)
 refine wpAny_newFunctionEnv_cells S.kind hkind fun env he s1 x=>?_
 subst he
 refine⟨lim.keeps x.toInCall.keep,codeAny_func ?_⟩
 obtain⟨t,ht,hq⟩:=hbody A outer s H vs Q E (hr.deeper _) hsp
 have I:Inv (pE CX P w K mg base N qual scope f cdv A outer s H E) [] (gt N vs) H s1:=o8 S hr.hd e0 hl r x
 refine wpAny_mono (ht [] s1 (gt N vs) H _ I hq) (fun fl s' hs=>?_) fun e s' hs=>hs
 have fin:∀ {σ':St} {H':Hp} {v:V} {u:Value},Inv (pE CX P w K mg base N qual scope f cdv A outer s H E) [] σ' H' s'→az v u→Q v H'→CE outer P w H s Q u s' :=
  fun {σ' H' v u} J rv q=>⟨v,H',J.os,J.bare,J.base,J.hok,rv,q⟩
 cases fl with
 | ret u =>
   obtain⟨v,σ',H',J,rv,q⟩:=hs
   exact fin J rv q
 | next =>
   obtain⟨σ',H',J,q⟩:=hs
   exact fin (v:=V.non) (u:=Value.none) J rfl q
 | brk =>
   obtain⟨_,_,_,q⟩:=hs
   exact False.elim q
 | cont =>
   obtain⟨_,_,_,q⟩:=hs
   exact False.elim q
end L2
namespace L2
open PySem PySem.Spec PyProof.Rows
section
variable {X:Cx}{x:Str}{p pos:Pos}{e:Expr}{es:List Expr}{t:TA}{id T:String}{r:List V→Hp→VK→Prop}
def tCB (r:List V→Hp→VK→Prop)(t:TA):TE:=fun σ H Q=>t σ H fun vs H1=>r vs H1 Q
theorem ap (hc:bQ X (.builtin id) r)(hg:Gl X x)(hm:X.mg x=none)(hv:bootBuiltins x=some (.builtin id))(ha:PA X (e :: es) t)(hn:x≠"__name__" :=by decide)(hdb:(x == ("__debug__" : Str))=false:=by decide)
 (he:starEach (e :: es) X.env=(false,eval e X.env) :: starEach es X.env:=by rfl) (hpl:(backTo pos (starEach es X.env)).any (·.1)=false:=by rfl):PE X (.Call (.Name x p) (e :: es) [] pos) (tCB r t):=by
 intro pins s σ H Q I h
 refine wpAny_Call_Name_kw (dE I hg hm hv ?_ hn hdb)
 exact PyProof.Rows.callWith_builtin1 (thn (ha pos pins s σ H _ I h) fun us s1 ⟨vs,H1,I1,r1,q1⟩=>hc pins s1 σ H1 vs us Q I1 r1 q1) he hpl
theorem eU (hc:bQ X (.type T) r)(hg:Gl X x)(hm:X.mg x=none)(hv:bootBuiltins x=some (.type T))(ha:PA X (e :: es) t)(hn:x≠"__name__" :=by decide)(hdb:(x == ("__debug__" : Str))=false:=by decide)
 (he:starEach (e :: es) X.env=(false,eval e X.env) :: starEach es X.env:=by rfl) (hpl:(backTo pos (starEach es X.env)).any (·.1)=false:=by rfl):PE X (.Call (.Name x p) (e :: es) [] pos) (tCB r t):=by
 intro pins s σ H Q I h
 refine wpAny_Call_Name_kw (dE I hg hm hv ?_ hn hdb)
 exact PyProof.Rows.callWith_type1 (thn (ha pos pins s σ H _ I h) fun us s1 ⟨vs,H1,I1,r1,q1⟩=>hc pins s1 σ H1 vs us Q I1 r1 q1) he hpl
end
end L2
namespace HT
open PySem PyProof.Rows
section
open PySem.SeqAt
open PySem.AutoSeq1 (wpAny_loadPart')
open PySem.MeetsSeq PySem.MeetsSeq2 PySem.MeetsSeq3
end
section
variable {prog:Program}{w:World}{A:Around}{E:Value→Shared→Prop}{s:Shared}
def sIx (n d:Nat):Option Int→Nat
 | none=>d
 | some v=>if v<0 then (v+(n:Int)).toNat else min v.toNat n
theorem sIx_nat (n d k:Nat):sIx n d (some (k:Int))=min k n:=by
 show (if (k:Int)<0 then ((k:Int)+(n:Int)).toNat else min (k:Int).toNat n)=min k n
 rw[if_neg (by lia),Int.toNat_natCast]
end
end HT
namespace L2
open PySem PySem.Spec PyProof.Rows
abbrev TO:=St→Hp→(Option Int→Hp→Prop)→Prop
def PO (X:Cx)(e:Option Expr)(t:TO):Prop :=
 ∀ (pins:List (Addr×Obj)) (s:Shared) (σ:St) (H:Hp) (Q:Option Int→Hp→Prop),Inv X pins σ H s→t σ H Q →
   wpAny (model X.prog X.w) X.A (evalPart e X.env) (fun u s'=>∃ o H',Inv X pins σ H' s'∧IsPart u o∧Q o H') X.xe s
def rf:TO:=fun _ H Q=>Q none H
def ub (t:TE):TO:=fun σ H Q=>t σ H fun x H1=>∃ i,x=.int i∧Q (some i) H1
theorem iy {ns:List Int}:∀ {us:List Value},aB (ns.map V.int) us→IntsAre us ns:=by
 induction ns with
 | nil=>intro us r;rw[map_nil] at r;cases r;exact .nil
 | cons n ns ih =>
   intro us r
   rw[map_cons] at r
   cases r with
   | cons r1 r2 =>
     obtain⟨t,e⟩:=r1
     subst e
     exact .cons n t (ih r2)
section
variable {X:Cx}{e:Expr}{te:TE}{lo hi:Option Expr}{tl th:TO}{pos p2:Pos}
theorem j0:PO X none rf:=by
 intro pins s σ H Q I h
 rw[evalPart_none]
 exact wpAny_pure ⟨none,H,I,.none,h⟩
theorem jZ (h:PE X e te):PO X (some e) (ub te):=by
 intro pins s σ H Q I hw
 rw[evalPart_some]
 refine thn (h pins s σ H _ I hw) fun u s1 ⟨x,H1,I1,r1,q1⟩=>?_
 obtain⟨i,rfl,q⟩:=q1
 obtain⟨t,rfl⟩:=r1
 exact⟨some i,H1,I1,.int i t,q⟩
def SlR (X:Cx)(r:V→Option Int→Option Int→Hp→VK→Prop):Prop :=
 ∀ (pins:List (Addr×Obj)) (s:Shared) (σ:St) (H:Hp) (x:V) (v vl vu:Value) (lo hi:Option Int) (sl:Addr) (Q:VK),Inv X pins σ H s→az x v→s.heap.IsSliceOf sl vl vu .none→IsPart vl lo→IsPart vu hi→r x lo hi H Q →
   ∃ T id,typeLookup (.type T) "__getitem__" = pure (some (.builtin id))∧s.TypeIs v T∧wpAny (model X.prog X.w) X.A (getItem v (.ref sl)) (EP X pins σ Q) X.xe s
def tSl (r:V→Option Int→Option Int→Hp→VK→Prop)(te:TE)(tl th:TO):TE:=fun σ H Q=>te σ H fun x H1=>tl σ H1 fun l H2=>th σ H2 fun u H3=>r x l u H3 Q
theorem hZ {r:V→Option Int→Option Int→Hp→VK→Prop}(hr:SlR X r)(he:PE X e te)(hl:PO X lo tl)(hu:PO X hi th):PE X (.Subscript e (.Slice lo hi none p2) pos) (tSl r te tl th):=by
 intro pins s σ H Q I h
 refine Subscript_ (thn (he pins s σ H _ I h) fun v s1 ⟨x,H1,I1,r1,q1⟩=>?_)
 refine wpAny_Slice (thn (hl pins s1 σ H1 _ I1 q1) fun vl s2 ⟨l,H2,I2,pl,q2⟩=>thn (hu pins s2 σ H2 _ I2 q2) fun vu s3 ⟨u,H3,I3,pu,q3⟩=>?_)
 rw[evalPart_none]
 refine wpAny_pure ?_
 have I4:Inv X pins σ H3 { s3 with heap:=s3.heap.push { cls:=.type "slice",data:=.fields #[vl,vu,.none] } }:=I3.kept (t':=s3.toks) fun b ob q=>Heap.get?_push_of_some _ q
 obtain⟨T,id,hT,ht,hg⟩:=hr pins { s3 with heap:=s3.heap.push { cls:=.type "slice",data:=.fields #[vl,vu,.none] } } σ H3 x v vl vu l u s3.heap.objs.size Q I4 r1 (Heap.IsSliceOf.new ..) pl pu q3
 show wpAny (model X.prog X.w) X.A (subscriptTail e (.Slice lo hi none p2) v (.ref s3.heap.objs.size)) (EP X pins σ Q) X.xe { s3 with heap:=s3.heap.push { cls:=.type "slice",data:=.fields #[vl,vu,.none] } }
 exact tail_any (ops:=[.ref s3.heap.objs.size,v]) ht hT hg (by with_unfolding_all rfl)
def iJ (xs:List V)(lo hi:Option Int):List V:=(xs.drop (HT.sIx xs.length 0 lo)).take (HT.sIx xs.length xs.length hi-HT.sIx xs.length 0 lo)
theorem md (xs:List V)(lo hi:Option Int):(iJ xs lo hi).length≤xs.length:=by
 unfold iJ
 rw[length_take,length_drop]
 lia
end
end L2
namespace L2
open PySem PySem.Spec PyProof.Rows
def ixN (n:Nat)(i:Int):Option Nat:=if 0≤i then (if i<n then some i.toNat else none) else if -(n:Int)≤i then some (i+n).toNat else none
def atI {α:Type}(xs:List α)(i:Int):Option α:=(ixN xs.length i).bind fun j=>xs[j]?
theorem rT {n:Nat}{i:Int}{j:Nat}(h:ixN n i=some j):seqIndex? i n=some j∧j<n∧-(n:Int)≤i∧i<n:=by
 unfold ixN at h
 by_cases h0:0≤i
 ·rw[if_pos h0] at h
  by_cases h1:i<n
  ·rw[if_pos h1] at h
   have e:i.toNat=j:=Option.some.inj h
   exact⟨by rw[seqIndex_of h0 h1,e],by lia,by lia,h1⟩
  ·rw[if_neg h1] at h;cases h
 ·rw[if_neg h0] at h
  by_cases h1:-(n:Int)≤i
  ·rw[if_pos h1] at h
   have e:(i+n).toNat=j:=Option.some.inj h
   exact⟨by rw[seqIndex_neg (by lia) h1,e],by lia,h1,by lia⟩
  ·rw[if_neg h1] at h;cases h
theorem oj {α:Type}{xs:List α}{i:Int}{v:α}(h:atI xs i=some v):∃ j,seqIndex? i xs.length=some j∧xs[j]? = some v∧j<xs.length∧-(xs.length:Int)≤i∧i<xs.length:=by
 unfold atI at h
 cases e:ixN xs.length i with
 | none=>rw[e] at h;cases h
 | some j =>
   rw[e] at h
   obtain⟨h1,h2,h3,h4⟩:=rT e
   exact⟨j,h1,h,h2,h3,h4⟩
theorem kD {α:Type}{xs:List α}{j:Nat}{v:α}(h:xs[j]? = some v):atI xs (j:Int)=some v:=by
 have hj:j<xs.length:=(List.getElem?_eq_some_iff.mp h).1
 have e:ixN xs.length (j:Int)=some j:=by
  unfold ixN
  rw[if_pos (by lia),if_pos (by lia)];simp
 unfold atI;rw[e];exact h
def si (b:Expr):Prop:=∀ o i,subscripted b false o i=operate [o,i] (getItem o i)
def IxR (X:Cx)(r:R2):Prop :=
 ∀ (value slice:Expr) (pins:List (Addr×Obj)) (s:Shared) (σ:St) (H:Hp) (x y:V) (v u:Value) (Q:VK),Inv X pins σ H s→az x v→az y u→r x y H Q →
   subscripted slice false v u=operate [v,u] (getItem v u)→wpAny (model X.prog X.w) X.A (subscriptTail value slice v u) (EP X pins σ Q) X.xe s
def MtR (X:Cx)(id:String)(r:V→List V→Hp→VK→Prop):Prop :=
 ∀ (pins:List (Addr×Obj)) (s:Shared) (σ:St) (H:Hp) (x:V) (xs:List V) (v:Value) (us:List Value) (Q:VK),Inv X pins σ H s→az x v→aB xs us→r x xs H Q →
   wpAny (model X.prog X.w) X.A (call (.builtin id) (v :: us)) (EP X pins σ Q) X.xe s
section
variable {X:Cx}{a b:Expr}{ta tb:TE}{pos:Pos}
theorem IxR.or {r r':R2}(h:IxR X r)(h':IxR X r'):IxR X (fun x y H Q=>r x y H Q∨r' x y H Q):=by
 intro value slice pins s σ H x y v u Q I rx ry q hs
 rcases q with q | q
 ·exact h value slice pins s σ H x y v u Q I rx ry q hs
 ·exact h' value slice pins s σ H x y v u Q I rx ry q hs
theorem aA {r:R2}(hr:IxR X r)(ha:PE X a ta)(hb:PE X b tb)(hs:si b):PE X (.Subscript a b pos) (tOp r ta tb):=by
 intro pins s σ H Q I h
 exact Subscript_ (tV ha hb I h fun v u s2 x y H2 I2 rx ry q=>hr a b pins s2 σ H2 x y v u Q I2 rx ry q (hs _ _))
def uY (K:PySem.W.Frag):R2:=fun x y H Q=>∃ p xs i v,x=.ref p∧y=.int i∧SqL K H p xs∧atI xs i=some v∧Q v H
def uW (K:PySem.W.Frag):R2:=fun x y H Q=>∃ p xs i v,x=.ref p∧y=.int i∧SqT K H p xs∧atI xs i=some v∧Q v H
theorem nS:IxR X (uY X.K):=by
 intro value slice pins s σ H x y v u Q I rx ry h hs
 obtain⟨p,xs,i,z,rfl,rfl,hq,he,q⟩:=h
 cases rx
 obtain⟨t,rfl⟩:=ry
 obtain⟨its,r,pl,hz⟩:=I.list hq
 obtain⟨j,h1,h2,h3,h4,h5⟩:=oj he
 obtain⟨w,ew,rw'⟩:=r.get h2
 have hl:=r.length
 have hn:=mX
 have fin:EP X pins σ Q w s:=⟨z,H,I,rw',q⟩
 by_cases h0:0≤i
 ·have hj:i.toNat=j:=by
   rw[seqIndex_of h0 h5] at h1
   exact Option.some.inj h1
  exact item_listR pl.isList h0 (by lia) (by rw[hj];simpa using ew) fin hs
 ·have hj:(i+(its.toArray.size:Int)).toNat=j:=by
   rw[seqIndex_neg (by lia) h4] at h1
   rw[size_toArray,←hl]
   exact Option.some.inj h1
  exact subscriptTail_builtinR (x:=w) pl.isList.typeIs slot_list_getitem.lookup
   (wpAny_getItem_list_neg (Q:=fun r s'=>r=w∧EP X pins σ Q r s') pl.isList (by lia) (by rw[size_toArray] <;> lia) (by lia) (by rw[hj];simpa using ew) ⟨rfl,fin⟩) hs
theorem tL:IxR X (uW X.K):=by
 intro value slice pins s σ H x y v u Q I rx ry h hs
 obtain⟨p,xs,i,z,rfl,rfl,hq,he,q⟩:=h
 cases rx
 obtain⟨t,rfl⟩:=ry
 obtain⟨its,r,pl,hz⟩:=I.tuple hq
 obtain⟨j,h1,h2,h3,h4,h5⟩:=oj he
 obtain⟨w,ew,rw'⟩:=r.get h2
 have hl:=r.length
 have hn:=mX
 have fin:EP X pins σ Q w s:=⟨z,H,I,rw',q⟩
 exact subscriptTail_builtinR (x:=w) pl.typeIs slot_tuple_getitem.lookup
  (getItem_tuple (j:=j) (Q:=fun r s'=>r=w∧EP X pins σ Q r s') pl (by lia) (by lia) (by rw[size_toArray,←hl];exact h1) (by simpa using ew) ⟨rfl,fin⟩) hs
theorem jW (lo hi:Option Int)(n:Nat):(sliceBounds lo hi none n).1=((HT.sIx n 0 lo:Nat):Int)∧(sliceBounds lo hi none n).2.1=((HT.sIx n n hi:Nat):Int)∧(sliceBounds lo hi none n).2.2=1:=by
 refine⟨?_,?_,rfl⟩
 ·cases lo with
  | none=>simp[sliceBounds,HT.sIx]
  | some i =>
    simp only[sliceBounds,HT.sIx,Option.getD_none,show (1:Int)>0 by decide,if_true]
    by_cases h:i<0
    ·simp only[h,if_true] <;> lia
    ·simp only[h,if_false] <;> lia
 ·cases hi with
  | none=>simp[sliceBounds,HT.sIx]
  | some i =>
    simp only[sliceBounds,HT.sIx,Option.getD_none,show (1:Int)>0 by decide,if_true]
    by_cases h:i<0
    ·simp only[h,if_true] <;> lia
    ·simp only[h,if_false] <;> lia
theorem iU (its:List Value)(lo hi:Option Int):slicePick its.toArray lo hi none=((its.drop (HT.sIx its.length 0 lo)).take (HT.sIx its.length its.length hi-HT.sIx its.length 0 lo)).toArray:=by
 obtain⟨h1,h2,h3⟩:=jW lo hi its.toArray.size
 unfold slicePick
 rw[h1,h2,h3]
 simp only[sliceRange_one,pick_run,size_toArray] <;> rfl
def uT (K:PySem.W.Frag):V→Option Int→Option Int→Hp→VK→Prop:=fun x lo hi H Q=>∃ a xs,x=.ref a∧SqL K H a xs∧∀ p,H p=none→Q (.ref p) (upd H p (.lst (iJ xs lo hi)))
theorem nJ:SlR X (uT X.K):=by
 intro pins s σ H x v vl vu lo hi sl Q I rx hs pl pu h
 obtain⟨a,xs,rfl,hx,q⟩:=h
 cases rx
 obtain⟨its,r,ht,hz⟩:=I.list hx
 have hlen:=r.length
 refine⟨"list",_,slot_list_getitem.lookup,ht.isList.typeIs,?_⟩
 refine wpAny_getItem_list_slice ht.isList hs pl pu .none (by simp) ?_ (by rw[size_toArray] <;> lia)
 rw[iU,←hlen]
 refine⟨.ref s.heap.objs.size,_,I.laid (t':=s.toks) (o:=.lst (iJ xs lo hi)) (fun b ob q=>Heap.get?_push_of_some _ q) (Nat.le_refl _) ?_,rfl,q _ (I.hok.fresh (Nat.le_refl _))⟩
 exact⟨Nat.le_trans (md xs lo hi) hz,_,0,(r.drop (HT.sIx xs.length 0 lo)).take (HT.sIx xs.length xs.length hi-HT.sIx xs.length 0 lo),Heap.get?_push_size _ rfl⟩
def fT:V→Bool
 | .non=>true
 | .bl _=>true
 | .int _=>true
 | .str _=>true
 | _=>false
def eqV:V→V→Bool
 | .non,.non=>true
 | .bl a,.bl b=>a == b
 | .bl a,.int b=>(if a then 1 else 0) == b
 | .int a,.bl b=>a == (if b then 1 else 0)
 | .int a,.int b=>a == b
 | .str a,.str b=>a == b
 | _,_=>false
theorem tP {A:Around}{s:Shared}{y x:V}{u v:Value}(ry:az y u)(rx:az x v)(fy:fT y=true)(fx:fT x=true):SeqAt.EqAt A s u v (eqV y x):=by
 cases y with
 | non =>
   cases ry
   cases x with
   | non=>cases rx;exact SeqAt.EqAt.same _
   | bl b=>cases rx;exact SeqAt.EqAt.none_bool b
   | int b=>obtain⟨t,rfl⟩:=rx;exact SeqAt.EqAt.none_int b t
   | str b=>obtain⟨t,rfl⟩:=rx;exact SeqAt.EqAt.none_str b t
   | _=>exact absurd (show false=true from fx) Bool.false_ne_true
 | bl a =>
   cases ry
   cases x with
   | non=>cases rx;exact SeqAt.EqAt.bool_none a
   | bl b=>cases rx;exact SeqAt.EqAt.bool_bool a b
   | int b=>obtain⟨t,rfl⟩:=rx;exact SeqAt.EqAt.bool_int a b t
   | str b=>obtain⟨t,rfl⟩:=rx;exact SeqAt.EqAt.bool_str a b t
   | _=>exact absurd (show false=true from fx) Bool.false_ne_true
 | int a =>
   obtain⟨t',rfl⟩:=ry
   cases x with
   | non=>cases rx;exact SeqAt.EqAt.int_none a t'
   | bl b=>cases rx;exact SeqAt.EqAt.int_bool a t' b
   | int b=>obtain⟨t,rfl⟩:=rx;exact SeqAt.EqAt.int_int a t' b t
   | str b=>obtain⟨t,rfl⟩:=rx;exact SeqAt.EqAt.int_str a t' b t
   | _=>exact absurd (show false=true from fx) Bool.false_ne_true
 | str a =>
   obtain⟨t',rfl⟩:=ry
   cases x with
   | non=>cases rx;exact SeqAt.EqAt.str_none a t'
   | bl b=>cases rx;exact SeqAt.EqAt.str_bool a t' b
   | int b=>obtain⟨t,rfl⟩:=rx;exact SeqAt.EqAt.str_int a t' b t
   | str b=>obtain⟨t,rfl⟩:=rx;exact SeqAt.EqAt.str_str a t' b t
   | _=>exact absurd (show false=true from fx) Bool.false_ne_true
 | _=>exact absurd (show false=true from fy) Bool.false_ne_true
def eqU (x:V)(u:Value):Bool:=match u with
 | .none=>eqV .non x
 | .bool b=>eqV (.bl b) x
 | .int i _=>eqV (.int i) x
 | .str z _=>eqV (.str z) x
 | _=>false
theorem qL {x y:V}{u:Value}(r:az y u)(f:fT y=true):eqU x u=eqV y x:=by
 cases y with
 | non=>cases r;rfl
 | bl b=>cases r;rfl
 | int i=>obtain⟨t,rfl⟩:=r;rfl
 | str z=>obtain⟨t,rfl⟩:=r;rfl
 | _=>exact absurd (show false=true from f) Bool.false_ne_true
theorem fW {x:V}:∀ {xs:List V} {us:List Value},aB xs us→xs.all fT=true→us.any (eqU x)=xs.any fun y=>eqV y x
 | _,_,.nil,_=>rfl
 | y :: xs,u :: us,.cons r t,f=>by
   rw[all_cons,Bool.and_eq_true] at f
   rw[any_cons,any_cons,qL r f.1,fW t f.2]
theorem eB {A:Around}{s:Shared}{x:V}{v:Value}(rx:az x v)(fx:fT x=true):∀ {xs:List V} {us:List Value},aB xs us→xs.all fT=true→∀ u∈us,SeqAt.EqAt A s u v (eqU x u)
 | _,_,.nil,_=>fun u hu=>by cases hu
 | y :: xs,u :: us,.cons r t,f=>fun u' hu=>by
   rw[all_cons,Bool.and_eq_true] at f
   rcases mem_cons.mp hu with rfl | hu
   ·rw[qL r f.1];exact tP r rx f.1 fx
   ·exact eB rx fx t f.2 u' hu
def inV (x:V)(xs:List V):Bool:=xs.any fun y=>eqV y x
def rIn (K:PySem.W.Frag)(neg:Bool):R2:=fun x y H Q=>∃ p xs,y=.ref p∧(SqL K H p xs∨SqT K H p xs)∧fT x=true∧xs.all fT=true∧Q (.bl (if neg then !inV x xs else inV x xs)) H
theorem oK:OpR X (compareOp .In) (rIn X.K false):=by
 intro pins s σ H x y v u Q I rx ry h
 obtain⟨p,xs,rfl,hq,fx,fs,q⟩:=h
 cases ry
 rcases hq with hq | hq
 ·obtain⟨its,r,pl,hz⟩:=I.list hq
  refine SeqAt.in_listAt (eqU x) pl.isList (fun w hw=>eB rx fx r fs w (by simpa using hw)) ⟨.bl _,H,I,rfl,?_⟩
  rw[show its.toArray.any (eqU x)=its.any (eqU x) by simp,fW r fs]
  exact q
 ·obtain⟨its,r,pl,hz⟩:=I.tuple hq
  refine SeqAt.in_tupleAt (eqU x) pl (fun w hw=>eB rx fx r fs w (by simpa using hw)) ⟨.bl _,H,I,rfl,?_⟩
  rw[show its.toArray.any (eqU x)=its.any (eqU x) by simp,fW r fs]
  exact q
theorem j9:OpR X (compareOp .NotIn) (rIn X.K true):=by
 intro pins s σ H x y v u Q I rx ry h
 obtain⟨p,xs,rfl,hq,fx,fs,q⟩:=h
 cases ry
 rcases hq with hq | hq
 ·obtain⟨its,r,pl,hz⟩:=I.list hq
  refine SeqAt.notIn_listAt (eqU x) pl.isList (fun w hw=>eB rx fx r fs w (by simpa using hw)) ⟨.bl _,H,I,rfl,?_⟩
  rw[show its.toArray.any (eqU x)=its.any (eqU x) by simp,fW r fs]
  exact q
 ·obtain⟨its,r,pl,hz⟩:=I.tuple hq
  refine SeqAt.notIn_tupleAt (eqU x) pl (fun w hw=>eB rx fx r fs w (by simpa using hw)) ⟨.bl _,H,I,rfl,?_⟩
  rw[show its.toArray.any (eqU x)=its.any (eqU x) by simp,fW r fs]
  exact q
theorem fU:bQ X (.builtin "len") (fun xs H Q=>∃ p ys,xs=[.ref p]∧(SqL X.K H p ys∨SqT X.K H p ys)∧Q (.int ys.length) H):=by
 intro pins s σ H xs us Q I r h
 obtain⟨p,ys,rfl,hq,q⟩:=h
 obtain⟨u,rfl,rx⟩:=dL r
 cases rx
 have hn:=mX
 rcases hq with hq | hq
 ·obtain⟨its,r',pl,hz⟩:=I.list hq
  have hlen:=r'.length
  exact Calls.call_len_list pl.isList (by simp only[size_toArray] <;> lia) ⟨.int ys.length,H,I.tok _,⟨s.toks+1,by rw[size_toArray,hlen]⟩,q⟩
 ·obtain⟨its,r',pl,hz⟩:=I.tuple hq
  have hlen:=r'.length
  exact len_tuple pl (by simp only[size_toArray] <;> lia) ⟨.int ys.length,H,I.tok _,⟨s.toks+1,by rw[size_toArray,hlen]⟩,q⟩
theorem kB:bQ X (.type "list") (fun xs H Q=>∃ p ys,xs=[.ref p]∧(SqL X.K H p ys∨SqT X.K H p ys)∧∀ l,H l=none→Q (.ref l) (upd H l (.lst ys))):=by
 intro pins s σ H xs us Q I r h
 obtain⟨p,ys,rfl,hq,q⟩:=h
 obtain⟨u,rfl,rx⟩:=dL r
 cases rx
 have fin:∀ (its:List Value),aB ys its→ys.length≤sizeLine→∀ (h':Heap) (c':Nat),(∀ b o',s.heap.get? b=some o'→h'.get? b=some o') →
  h'.get? s.heap.objs.size=some { cls:=.type "list",dict:=none,data:=.seq its.toArray c',slots:=#[] }→EP X pins σ Q (.ref s.heap.objs.size) { s with heap:=h' }:=fun its r' hz h' c' kp e =>
  ⟨.ref s.heap.objs.size,_,I.laid (t':=s.toks) kp (Nat.le_refl _) (show aS X.prog X.w _ h' _ (.lst ys) from ⟨hz,its,c',r',e⟩),rfl,q _ (I.hok.fresh (Nat.le_refl _))⟩
 rcases hq with hq | hq
 ·obtain⟨its,r',pl,hz⟩:=I.list hq
  have hlen:=r'.length
  obtain⟨o,ho,hc,n,hd⟩:=pl.isList
  exact call_list_seq p (.inl rfl) ho hc hd (fun h' c' kp e=>fin its r' hz h' c' kp e) (by simp only[size_toArray] <;> lia)
 ·obtain⟨its,r',pl,hz⟩:=I.tuple hq
  have hlen:=r'.length
  obtain⟨o,ho,hc,n,hd⟩:=pl
  exact call_list_seq p (.inr rfl) ho hc hd (fun h' c' kp e=>fin its r' hz h' c' kp e) (by simp only[size_toArray] <;> lia)
def tyV (K:PySem.W.Frag)(T:String)(x:V)(H:Hp):Prop:=match x with
 | .str _=>T = "str"
 | .int _=>T = "int"
 | .ref p=>(T = "list" ∧∃ xs,SqL K H p xs)∨(T = "tuple" ∧∃ o,K.lookup p=some o∧o.cls=.type "tuple" ∧o.dict=none) ∨
  (T = "dict" ∧((∃ kvs,H p=some (.dK kvs))∨∃ kvs,H p=some (.dT kvs)))∨(T = "set" ∧∃ S n,H p=some (.set S n))
 | _=>False
theorem jQ {pins:List (Addr×Obj)}{σ:St}{H:Hp}{s:Shared}{T:String}{x:V}{v:Value}(I:Inv X pins σ H s)(r:az x v)(ty:tyV X.K T x H) :
 s.TypeIs v T∧∀ a,v=.ref a→∃ ob,s.heap.get? a=some ob∧ob.dict=none:=by
 cases x with
 | str z =>
   obtain⟨t,rfl⟩:=r
   cases (show T = "str" from ty)
   exact⟨typeIs_str s z t,fun _ e=>nomatch e⟩
 | int i =>
   obtain⟨t,rfl⟩:=r
   cases (show T = "int" from ty)
   exact⟨typeIs_int s i t,fun _ e=>nomatch e⟩
 | ref p =>
   cases r
   rcases ty with⟨rfl,xs,hq⟩ | ⟨rfl,o,hk,hc,hd⟩ | ⟨rfl,hk⟩ | ⟨rfl,S,n,hk⟩
   ·obtain⟨its,_,pl,_⟩:=I.list hq
    refine⟨pl.isList.typeIs,fun a e=>?_⟩
    cases e
    obtain⟨o,n,e,c,hd,_⟩:=pl
    exact⟨o,e,hd⟩
   ·refine⟨⟨o,I.kIn p o hk,hc⟩,fun a e=>?_⟩
    cases e
    exact⟨o,I.kIn _ o hk,hd⟩
   ·have z:∃ o,s.heap.get? p=some o∧o.ExactDict:=by
     rcases hk with⟨kvs,hk⟩ | ⟨kvs,hk⟩
     ·obtain⟨_,_,_,_,o,_,_,e,ex,_⟩:=I.hok p _ hk
      exact⟨o,e,ex⟩
     ·obtain⟨_,_,_,_,o,_,_,e,ex,_⟩:=I.hok p _ hk
      exact⟨o,e,ex⟩
    obtain⟨o,e,ex⟩:=z
    refine⟨⟨o,e,ex.1⟩,fun a e2=>?_⟩
    cases e2
    exact⟨o,e,ex.2.1⟩
   ·obtain⟨o,_,_,_,e,ex,_⟩:=I.hok p _ hk
    refine⟨⟨o,e,ex.1⟩,fun a e2=>?_⟩
    cases e2
    exact⟨o,e,ex.2.1⟩
 | _=>exact False.elim ty
variable {o e:Expr}{es:List Expr}{to:TE}{t:TA}{name:Str}{apos cpos:Pos}{T id:String}{r:V→List V→Hp→VK→Prop}
end
end L2
namespace L2
open PySem PySem.Spec PyProof.Rows
def MtM (X:Cx)(id:String)(r:V→List V→Hp→VK→Prop):Prop :=
 ∀ (pins:List (Addr×Obj)) (s:Shared) (σ:St) (H:Hp) (x:V) (xs:List V) (v:Value) (us:List Value) (Q:VK),Inv X pins σ H s→az x v→aB xs us→r x xs H Q →
   wpAny (model X.prog X.w) X.A (call (.builtin id) (v :: us)) (EP X pins σ Q) X.xe s
theorem aB.one:∀ {x:V} {us:List Value},aB [x] us→∃ u,us=[u]∧az x u
 | _,_,.cons r .nil=>⟨_,rfl,r⟩
theorem aB.two:∀ {x y:V} {us:List Value},aB [x,y] us→∃ u v,us=[u,v]∧az x u∧az y v
 | _,_,_,.cons r (.cons q .nil)=>⟨_,_,rfl,r,q⟩
theorem aB.zero:∀ {us:List Value},aB [] us→us=[]
 | _,.nil=>rfl
theorem aB.dropLast {xs:List V}{us:List Value}(h:aB xs us):aB xs.dropLast us.dropLast:=by
 induction h with
 | nil=>exact .nil
 | cons r t ih =>
   cases t with
   | nil=>exact .nil
   | cons q t'=>exact .cons r ih
theorem aB.reverse {xs:List V}{us:List Value}(h:aB xs us):aB xs.reverse us.reverse:=by
 induction h with
 | nil=>exact .nil
 | cons r t ih=>rw[List.reverse_cons,List.reverse_cons];exact aB.append ih (.cons r .nil)
theorem m5 {α:Type}(l:List α):l.eraseIdx (l.length-1)=l.dropLast:=by
 induction l with
 | nil=>rfl
 | cons a r ih =>
   cases r with
   | nil=>rfl
   | cons b r =>
     have e:(a :: b :: r).length-1=((b :: r).length-1)+1:=by
      have h1:(a :: b :: r).length=r.length+2:=rfl
      have h2:(b :: r).length=r.length+1:=rfl
      assumption
     rw[e,List.eraseIdx_cons_succ,ih]
     all_goals rfl
section
variable {X:Cx}{pins:List (Addr×Obj)}{σ:St}{H:Hp}{s:Shared}{l b:Addr}{xs ys zs:List V}
theorem Inv.lset {its its':List Value}{n:Nat}{f:Array Value→Array Value}{t':Nat}(I:Inv X pins σ H s)(hH:H l=some (.lst xs))
 (e:s.heap.get? l=some { cls:=.type "list",data:=.seq its.toArray n }) (hf:f its.toArray=its'.toArray) (hv:aB ys its') (hz:ys.length≤sizeLine) :
 Inv X pins σ (upd H l (.lst ys)) { s with heap:=s.heap.update l (Obj.mapSeq f),toks:=t' }:=by
 have q:=PySem.IsL.update e f
 rw[hf] at q
 refine I.write (x:=l) (e:=l) (by rw[hH];exact trivial) (.inl rfl) (fun b' u hb hu=>(Heap.get?_update_other s.heap (Obj.mapSeq f) (Ne.symm hb)).trans hu) ⟨_,q⟩ ?_
 exact⟨hz,its',_,hv,q⟩
theorem Inv.lnew {its:List Value}{t':Nat}(I:Inv X pins σ H s)(hv:aB ys its)(hz:ys.length≤sizeLine) :
 Inv X pins σ (upd H s.heap.objs.size (.lst ys)) { s with heap:=s.heap.push { cls:=.type "list",data:=.seq its.toArray },toks:=t' } :=
 I.laid (fun _ _ q=>Heap.get?_push_of_some _ q) (Nat.le_refl _) ⟨hz,its,0,hv,Heap.get?_push_size _ rfl⟩
theorem Inv.fresh (I:Inv X pins σ H s):H s.heap.objs.size=none:=I.hok.fresh (Nat.le_refl _)
theorem Inv.lstM (I:Inv X pins σ H s)(hH:H l=some (.lst xs)):xs.length≤sizeLine∧∃ (its:List Value) (n:Nat),aB xs its∧xs.length=its.length∧s.heap.get? l=some { cls:=.type "list",data:=.seq its.toArray n }:=by
 obtain⟨z,its,n,r,e⟩:=I.hok l _ hH
 exact⟨z,its,n,r,r.length,e⟩
theorem qt {n:Nat}(h:n≤sizeLine):Builtin.List.listTooLong n=false:=by
 unfold Builtin.List.listTooLong
 exact decide_eq_false (by lia)
end
section
variable {X:Cx}
def rA:V→List V→Hp→VK→Prop:=fun x vs H Q=>∃ l xs y,x=.ref l∧vs=[y]∧H l=some (.lst xs)∧xs.length<sizeLine∧Q .non (upd H l (.lst (xs++[y])))
theorem oU:MtM X "list.append" rA:=by
 intro pins s σ H x vs v us Q I rx rv h
 obtain⟨l,xs,y,rfl,rfl,hH,hz,q⟩:=h
 cases rx
 obtain⟨u,rfl,ru⟩:=rv.one
 obtain⟨z,its,n,r,hl,e⟩:=I.lstM hH
 refine call_meets F.slot_list_append ⟨_,e,rfl⟩ F.entry_list_append (F.args_list_append_2 _ _) (PySem.list_append l its.toArray n u (by rw[size_toArray];lia)) ⟨e,?_⟩
 refine⟨.non,_,I.lset (its':=its++[u]) hH e (by simp) (r.append (.cons ru .nil)) ?_,rfl,q⟩
 rw[length_append,length_singleton]
 assumption
def rq:V→List V→Hp→VK→Prop:=fun x vs H Q=>∃ l b xs zs,x=.ref l∧vs=[.ref b]∧H l=some (.lst xs)∧H b=some (.lst zs)∧xs.length+zs.length≤sizeLine∧Q .non (upd H l (.lst (xs++zs)))
theorem oT:MtM X "list.extend" rq:=by
 intro pins s σ H x vs v us Q I rx rv h
 obtain⟨l,b,xs,zs,rfl,rfl,hH,hB,hz,q⟩:=h
 cases rx
 obtain⟨u,rfl,ru⟩:=rv.one
 cases ru
 obtain⟨z,its,n,r,hl,e⟩:=I.lstM hH
 obtain⟨z2,its2,n2,r2,hl2,e2⟩:=I.lstM hB
 have hsz:its.toArray.size+its2.toArray.size≤sizeLine:=by rw[size_toArray,size_toArray];lia
 have hlong:¬ (!its.toArray.isEmpty && Builtin.List.listTooLong (its.toArray.size+its2.toArray.size))=true:=by
  rw[qt hsz,Bool.and_false]
  exact Bool.false_ne_true
 refine call_meets F.slot_list_extend ⟨_,e,rfl⟩ F.entry_list_extend (F.args_list_extend_2 _ _)
  (AutoSeq1.list_extend_list_list_0 l its.toArray n b its2.toArray n2 hlong (by rw[size_toArray];lia) (by lia)) ⟨e,e2,?_⟩
 refine⟨.non,_,I.lset (its':=its++its2) hH e (by simp) (r.append r2) ?_,rfl,q⟩
 rw[length_append]
 assumption
def uV:V→List V→Hp→VK→Prop:=fun x vs H Q=>∃ l xs y,x=.ref l∧vs=[]∧H l=some (.lst xs)∧xs[xs.length-1]? = some y∧Q y (upd H l (.lst xs.dropLast))
theorem tz:MtM X "list.pop" uV:=by
 intro pins s σ H x vs v us Q I rx rv h
 obtain⟨l,xs,y,rfl,rfl,hH,hy,q⟩:=h
 cases rx
 have hus:=rv.zero
 subst hus
 obtain⟨z,its,n,r,hl,e⟩:=I.lstM hH
 obtain⟨u,hu,ru⟩:=r.get hy
 have hy':its.toArray[its.toArray.size-1]? = some u:=by
  show its.toArray[its.length-1]? = some u
  rw[←Array.getElem?_toList,←hl]
  exact hu
 refine call_meets F.slot_list_pop ⟨_,e,rfl⟩ F.entry_list_pop (F.args_list_pop_1 _) (MeetsSeq.list_pop_last l its.toArray n u hy' (by rw[size_toArray];lia)) ⟨e,?_⟩
 refine⟨y,_,I.lset (its':=its.dropLast) hH e ?_ r.dropLast ?_,ru,q⟩
 ·show its.toArray.eraseIdxIfInBounds (its.toArray.size-1)=its.dropLast.toArray
  rw[size_toArray,List.eraseIdxIfInBounds_toArray,m5]
 ·rw[List.length_dropLast]
  lia
def qb:V→List V→Hp→VK→Prop:=fun x vs H Q=>∃ l xs,x=.ref l∧vs=[]∧H l=some (.lst xs)∧Q .non (upd H l (.lst xs.reverse))
theorem mV:MtM X "list.reverse" qb:=by
 intro pins s σ H x vs v us Q I rx rv h
 obtain⟨l,xs,rfl,rfl,hH,q⟩:=h
 cases rx
 have hus:=rv.zero
 subst hus
 obtain⟨z,its,n,r,hl,e⟩:=I.lstM hH
 refine call_meets F.slot_list_reverse ⟨_,e,rfl⟩ F.entry_list_reverse (F.args_list_reverse_1 _) (AutoSeq1.list_reverse_list_0 l its.toArray n (by rw[size_toArray];lia)) ⟨e,?_⟩
 refine⟨.non,_,I.lset (its':=its.reverse) hH e (by simp) r.reverse ?_,rfl,q⟩
 rw[List.length_reverse]
 assumption
def uZ:R2:=fun x y H Q=>∃ l b xs zs,x=.ref l∧y=.ref b∧H l=some (.lst xs)∧H b=some (.lst zs)∧xs.length+zs.length≤sizeLine∧∀ p,H p=none→Q (.ref p) (upd H p (.lst (xs++zs)))
theorem tm:OpR X (binaryOp .Add) uZ:=by
 intro pins s σ H x y v u Q I rx ry h
 obtain⟨l,b,xs,zs,rfl,rfl,hH,hB,hz,q⟩:=h
 cases rx
 cases ry
 obtain⟨z,its,n,r,hl,e⟩:=I.lstM hH
 obtain⟨z2,its2,n2,r2,hl2,e2⟩:=I.lstM hB
 refine PySem.P.add_list e e2 ?_ (by rw[size_toArray,size_toArray];lia)
 have ea:its.toArray++its2.toArray=(its++its2).toArray:=by simp
 rw[ea]
 exact⟨.ref _,_,I.lnew (t':=s.toks) (r.append r2) (by rw[length_append];assumption),rfl,q _ I.fresh⟩
end
end L2
namespace L2
open PySem PySem.Spec PyProof.Rows
section
variable {κ:Type}[DecidableEq κ]
def bo (kvs:List (κ×V))(k:κ):Option V:=(kvs.find? fun kv=>decide (kv.1=k)).map (·.2)
def cz (kvs:List (κ×V))(k:κ)(v:V):List (κ×V) :=
 if (kvs.any fun kv=>decide (kv.1=k))=true then kvs.map (fun kv=>if kv.1=k then (kv.1,v) else kv) else kvs++[(k,v)]
theorem dS {p:κ×V}{r:List (κ×V)}{k:κ}(e:p.1=k):bo (p :: r) k=some p.2:=by simp[bo,find?_cons,e]
theorem dU {p:κ×V}{r:List (κ×V)}{k:κ}(e:¬ p.1=k):bo (p :: r) k=bo r k:=by simp[bo,find?_cons,e]
theorem fB (k:κ):∀ kvs:List (κ×V),(kvs.any fun kv=>decide (kv.1=k))=(bo kvs k).isSome
 | []=>rfl
 | p :: r=>by
   rw[any_cons]
   by_cases e:p.1=k
   ·simp only[dS e,decide_eq_true e,Bool.true_or,Option.isSome_some]
   ·rw[dU e,decide_eq_false e,Bool.false_or];exact fB k r
theorem eE (kvs:List (κ×V))(k:κ)(v:V):(cz kvs k v).length≤kvs.length+1:=by
 unfold cz
 split
 ·rw[length_map];lia
 ·rw[length_append,length_cons,length_nil];lia
theorem fK {kvs:List (κ×V)}{k:κ}(v:V)(h:bo kvs k=none):cz kvs k v=kvs++[(k,v)]:=by
 unfold cz
 rw[fB,h]
 exact if_neg (by decide)
theorem gq.isSome_eq {o:Option V}{u:Option Value}(r:gq o u):o.isSome=u.isSome:=by
 cases o with
 | none=>cases u with
   | none=>rfl
   | some _=>exact (show False from r).elim
 | some _=>cases u with
   | none=>exact (show False from r).elim
   | some _=>rfl
theorem gq.getD {o:Option V}{u:Option Value}{d:V}{d':Value}(r:gq o u)(rd:az d d'):az (o.getD d) (u.getD d'):=by
 cases o with
 | none=>cases u with
   | none=>exact rd
   | some _=>exact (show False from r).elim
 | some _=>cases u with
   | none=>exact (show False from r).elim
   | some _=>exact r
theorem KV.val {kvs:List (κ×V)}{vs:List (κ×Value)}(r:KV kvs vs)(k:κ):gq (bo kvs k) (valueAt vs k):=by
 unfold KV at r
 induction r with
 | nil=>exact True.intro
 | @cons p q ps qs h t ih =>
   obtain⟨h1,h2⟩:=h
   by_cases e:p.1=k
   ·have e':q.1=k:=h1.symm.trans e
    have b:valueAt (q :: qs) k=some q.2:=by simp[valueAt,find?_cons,e']
    rw[dS e,b];exact h2
   ·have e':¬ q.1=k:=fun z=>e (h1.trans z)
    have b:valueAt (q :: qs) k=valueAt qs k:=by simp[valueAt,find?_cons,e']
    rw[dU e,b];exact ih
theorem KV.any {kvs:List (κ×V)}{vs:List (κ×Value)}(r:KV kvs vs)(k:κ):(kvs.any fun kv=>decide (kv.1=k))=vs.any fun kv=>decide (kv.1=k):=by
 unfold KV at r
 induction r with
 | nil=>rfl
 | cons h t ih=>rw[any_cons,any_cons,ih,h.1]
theorem KV.repl {kvs:List (κ×V)}{vs:List (κ×Value)}(r:KV kvs vs)(k:κ){y:V}{u:Value}(ry:az y u) :
 KV (kvs.map fun kv=>if kv.1=k then (kv.1,y) else kv) (vs.map fun kv=>if kv.1=k then (kv.1,u) else kv):=by
 unfold KV at r ⊢
 induction r with
 | nil=>exact .nil
 | @cons p q ps qs h t ih =>
   rw[map_cons,map_cons]
   refine .cons ?_ ih
   obtain⟨h1,h2⟩:=h
   by_cases e:p.1=k
   ·rw[if_pos e,if_pos (h1.symm.trans e)];exact⟨h1,ry⟩
   ·rw[if_neg e,if_neg (fun z=>e (h1.trans z))];exact⟨h1,h2⟩
theorem KV.put {kvs:List (κ×V)}{vs:List (κ×Value)}(r:KV kvs vs)(k:κ){y:V}{u:Value}(ry:az y u):KV (cz kvs k y) (stored vs k u):=by
 unfold cz stored
 rw[r.any k]
 by_cases e:(vs.any fun kv=>decide (kv.1=k))=true
 ·rw[if_pos e,if_pos e];exact r.repl k ry
 ·rw[if_neg e,if_neg e];exact Paired.snoc r ⟨rfl,ry⟩
theorem KV.keys {kvs:List (κ×V)}{vs:List (κ×Value)}(r:KV kvs vs):kvs.map (·.1)=vs.map (·.1):=by
 unfold KV at r
 induction r with
 | nil=>rfl
 | cons h t ih=>rw[map_cons,map_cons,ih,h.1]
theorem KV.length {kvs:List (κ×V)}{vs:List (κ×Value)}(r:KV kvs vs):kvs.length=vs.length:=Paired.length r
end
theorem fQ {P:Program}{w:World}{k:Key}{u:Value}(r:az (kV k) u):(aO P w).is k u=true:=by
 cases k with
 | inl i=>obtain⟨t,e⟩:=(show ∃ t,u=Value.int i t from r);subst e;exact lK P w i t
 | inr x=>obtain⟨t,e⟩:=(show ∃ t,u=Value.str x t from r);subst e;exact lJ P w x t
theorem jw {P:Program}{w:World}:∀ {ks:List Key} {us:List Value},aB (ks.map kV) us→ItemsAre (aO P w) ks us
 | [],_,r=>by rw[map_nil] at r;cases r;exact .nil
 | k :: ks,_,r=>by
   rw[map_cons] at r
   cases r with
   | cons h t=>exact .cons (fQ h) (jw t)
abbrev KT (H:Hp):List (List Key×V)→List (List Key×Addr×Value)→Prop:=Paired fun p q=>p.1=q.1∧H q.2.1=some (.tup (p.1.map kV))∧az p.2 q.2.2
theorem KT.val {H:Hp}{kvs:List (List Key×V)}{xs:List (List Key×Addr×Value)}(r:KT H kvs xs)(k:List Key):gq (bo kvs k) ((atKey xs k).map (·.2)):=by
 induction r with
 | nil=>exact True.intro
 | @cons p q ps qs h t ih =>
   obtain⟨h1,_,h2⟩:=h
   by_cases e:p.1=k
   ·have e':q.1=k:=h1.symm.trans e
    have b:atKey (q :: qs) k=some q.2:=by simp[atKey,find?_cons,e']
    rw[dS e,b];exact h2
   ·have e':¬ q.1=k:=fun z=>e (h1.trans z)
    have b:atKey (q :: qs) k=atKey qs k:=by simp[atKey,find?_cons,e']
    rw[dU e,b];exact ih
theorem KT.repl {H:Hp}{kvs:List (List Key×V)}{xs:List (List Key×Addr×Value)}(r:KT H kvs xs)(k:List Key){y:V}{u:Value}(ry:az y u) :
 KT H (kvs.map fun kv=>if kv.1=k then (kv.1,y) else kv) (xs.map (putAt k u)):=by
 induction r with
 | nil=>exact .nil
 | @cons p q ps qs h t ih =>
   rw[map_cons,map_cons]
   refine .cons ?_ ih
   obtain⟨h1,h2,h3⟩:=h
   unfold putAt
   by_cases e:p.1=k
   ·rw[if_pos e,if_pos (h1.symm.trans e)];exact⟨h1,h2,ry⟩
   ·rw[if_neg e,if_neg (fun z=>e (h1.trans z))];exact⟨h1,h2,h3⟩
theorem KT.put {H:Hp}{kvs:List (List Key×V)}{xs:List (List Key×Addr×Value)}(r:KT H kvs xs)(k:List Key){b:Addr}{y:V}{u:Value}(hb:H b=some (.tup (k.map kV)))(ry:az y u) :
 KT H (cz kvs k y) (storedH xs k b u):=by
 have e:(kvs.any fun kv=>decide (kv.1=k))=(atKey xs k).isSome:=by
  rw[fB,(r.val k).isSome_eq,Option.isSome_map]
 unfold cz storedH
 rw[e]
 by_cases q:(atKey xs k).isSome=true
 ·rw[if_pos q,if_pos q];exact r.repl k ry
 ·rw[if_neg q,if_neg q];exact Paired.snoc r ⟨rfl,hb,ry⟩
theorem KT.keeps {H H':Hp}{kvs:List (List Key×V)}{xs:List (List Key×Addr×Value)}(r:KT H kvs xs)(ht:∀ b ys,H b=some (.tup ys)→H' b=some (.tup ys)):KT H' kvs xs :=
 Paired.mapP r fun _ _ z=>⟨z.1,ht _ _ z.2.1,z.2.2⟩
section
variable {P:Program}{w:World}{H:Hp}{h:Heap}{a:Addr}
theorem sC {u:HO}(ok:HOk P w H h)(e:Rd H a u):aS P w H h a u:=e.ok ok
theorem eI {kvs:List (Key×V)}(ok:HOk P w H h)(e:Rd H a (.dK kvs)):kvs.length≤sizeLine∧(a == sysModules)=false∧∃ vs,KV kvs vs∧h.DictOf (aO P w) a vs :=
 show aS P w H h a (.dK kvs) from sC ok e
theorem qM {kvs:List (Key×V)}(ok:HOk P w H h)(e:H a=some (.dK kvs)):kvs.length≤sizeLine∧(a == sysModules)=false∧∃ vs,KV kvs vs∧h.DictOf (aO P w) a vs:=eI ok (.inl e)
theorem gc {ks:List Key}(ok:HOk P w H h)(e:H a=some (.tup (ks.map kV))):(tupleKind (aO P w)).is h ks a:=by
 obtain⟨_,its,r,o,h1,h2,n,h3⟩:=(show aS P w H h a (.tup (ks.map kV)) from ok a _ e)
 exact⟨o,its.toArray,n,h1,h2,h3,by simpa using jw r⟩
theorem iH {kvs:List (List Key×V)}(ok:HOk P w H h)(e:Rd H a (.dT kvs)):kvs.length≤sizeLine∧(a == sysModules)=false ∧
 ∃ xs,KT H kvs xs∧h.DictOfH (tupleKind (aO P w)) a xs:=by
 obtain⟨z,y,xs,r,o,es,ep,h1,h2,h3,h4,h5⟩:=(show aS P w H h a (.dT kvs) from sC ok e)
 refine⟨z,y,xs,r,o,es,ep,h1,h2,h3,h4,fun x hx=>?_,h5⟩
 have all:∀ {l:List (List Key×V)} {m:List (List Key×Addr×Value)},KT H l m→∀ x∈m,(tupleKind (aO P w)).is h x.1 x.2.1:=by
  intro l m q
  induction q with
  | nil=>intro x hx;exact nomatch hx
  | @cons p q ps qs hq t ih =>
    intro x hx
    rcases mem_cons.mp hx with e | hx
    ·subst e
     exact gc ok (by rw[←hq.1];exact hq.2.1)
    ·exact ih x hx
 exact all r x hx
theorem uB {kvs:List (List Key×V)}(ok:HOk P w H h)(e:H a=some (.dT kvs)):kvs.length≤sizeLine∧(a == sysModules)=false ∧
 ∃ xs,KT H kvs xs∧h.DictOfH (tupleKind (aO P w)) a xs:=iH ok (.inl e)
end
def cD (H:Hp)(a:Addr)(y:V)(r:Option V):Prop :=
 (∃ kvs k,Rd H a (.dK kvs)∧y=kV k∧r=bo kvs k)∨∃ kvs k b,Rd H a (.dT kvs)∧y=.ref b∧H b=some (.tup (k.map kV))∧r=bo kvs k
def sn (H:Hp)(a:Addr)(y v:V)(H':Hp):Prop :=
 (∃ kvs k,H a=some (.dK kvs)∧y=kV k∧kvs.length<sizeLine∧H'=upd H a (.dK (cz kvs k v))) ∨
 ∃ kvs k b,H a=some (.dT kvs)∧y=.ref b∧H b=some (.tup (k.map kV))∧kvs.length<sizeLine∧H'=upd H a (.dT (cz kvs k v))
theorem cD.k {H:Hp}{a:Addr}{kvs:List (Key×V)}{k:Key}(e:H a=some (.dK kvs)):cD H a (kV k) (bo kvs k):=.inl ⟨kvs,k,.inl e,rfl,rfl⟩
theorem sn.k {H:Hp}{a:Addr}{kvs:List (Key×V)}{k:Key}{v:V}(e:H a=some (.dK kvs))(hl:kvs.length<sizeLine):sn H a (kV k) v (upd H a (.dK (cz kvs k v))):=.inl ⟨kvs,k,e,rfl,hl,rfl⟩
section
variable {X:Cx}{pins:List (Addr×Obj)}{σ:St}{H:Hp}{s:Shared}{a:Addr}{y v:V}{u r:Value}{o:Option V}{A:Around}{E:Value→Shared→Prop}
theorem Inv.big (I:Inv X pins σ H s):sysModules<s.heap.objs.size:=by
 have h:mainGlobals<s.heap.objs.size:=(I.mod.glob.keeps I.bk).lt
 exact Nat.lt_trans (by decide) h
theorem pC {Q:Value→Shared→Prop}(hu:A.units+1<cLine)(I:Inv X pins σ H s)(g:cD H a y (some v))(ry:az y u)(h:∀ w' s',Inv X pins σ H s'→az v w'→Q w' s') :
 wpAny (model X.prog X.w) A (getItem (.ref a) u) Q E s:=by
 rcases g with⟨kvs,k,e,ey,l⟩ | ⟨kvs,k,b,e,ey,eb,l⟩
 ·subst ey
  obtain⟨z,hd,vs,rel,dd⟩:=eI I.hok e
  obtain⟨w',hw,rw'⟩:=gq.some_of (v:=v) (o:=valueAt vs k) (by rw[l];exact rel.val k)
  exact wpAny_getItem_of (fQ ry) dd.mapOf hw (h w' _ (I.tok _) rw')
 ·subst ey
  cases (show u=Value.ref b from ry)
  obtain⟨z,hd,xs,rel,dd⟩:=iH I.hok e
  obtain⟨w',hw,rw'⟩:=gq.some_of (v:=v) (o:=(atKey xs k).map (·.2)) (by rw[l];exact rel.val k)
  obtain⟨p,hp,hp2⟩:=Option.map_eq_some_iff.mp hw
  refine wpAny_getItem_heap (tupleKind_room_in1 hu) (gc I.hok eb) dd hp ?_
  rw[hp2]
  exact h w' _ (I.tok _) rw'
theorem vc {Q:Value→Shared→Prop}(hu:A.units+1<cLine)(I:Inv X pins σ H s)(g:cD H a y o)(ry:az y u)(h:∀ s',Inv X pins σ H s'→Q (.bool o.isSome) s') :
 wpAny (model X.prog X.w) A (compareOp .In u (.ref a)) Q E s:=by
 rcases g with⟨kvs,k,e,ey,l⟩ | ⟨kvs,k,b,e,ey,eb,l⟩
 ·subst ey
  obtain⟨z,hd,vs,rel,dd⟩:=eI I.hok e
  refine wpAny_in_of (fQ ry) hd dd.mapOf ?_
  rw[←(rel.val k).isSome_eq,←l]
  exact h _ (I.tok _)
 ·subst ey
  cases (show u=Value.ref b from ry)
  obtain⟨z,hd,xs,rel,dd⟩:=iH I.hok e
  refine wpAny_in_heap (tupleKind_room_in1 hu) (gc I.hok eb) hd dd ?_
  have q:=(rel.val k).isSome_eq
  rw[Option.isSome_map] at q
  rw[←q,←l]
  exact h _ (I.tok _)
theorem r6 {Q:Value→Shared→Prop}(hu:A.units+1<cLine)(I:Inv X pins σ H s)(g:cD H a y o)(ry:az y u)(h:∀ s',Inv X pins σ H s'→Q (.bool (!o.isSome)) s') :
 wpAny (model X.prog X.w) A (compareOp .NotIn u (.ref a)) Q E s:=by
 rcases g with⟨kvs,k,e,ey,l⟩ | ⟨kvs,k,b,e,ey,eb,l⟩
 ·subst ey
  obtain⟨z,hd,vs,rel,dd⟩:=eI I.hok e
  refine wpAny_notIn_of (fQ ry) hd dd.mapOf ?_
  rw[←(rel.val k).isSome_eq,←l]
  exact h _ (I.tok _)
 ·subst ey
  cases (show u=Value.ref b from ry)
  obtain⟨z,hd,xs,rel,dd⟩:=iH I.hok e
  refine wpAny_notIn_heap (tupleKind_room_in1 hu) (gc I.hok eb) hd dd ?_
  have q:=(rel.val k).isSome_eq
  rw[Option.isSome_map] at q
  rw[←q,←l]
  exact h _ (I.tok _)
theorem gU {h':Heap}{t':Nat}{ob:HO}(I:Inv X pins σ H s)(mu:Mut (H a))(hs:Heap.SameBut a s.heap h')(he:∃ q,h'.get? a=some q)(new:aS X.prog X.w (upd H a ob) h' a ob) :
 Inv X pins σ (upd H a ob) { s with heap:=h',toks:=t' } :=
 I.write (x:=a) (e:=a) mu (.inl rfl) (fun b q hb z=>(hs.2 b hb).trans z) he new
theorem ku {P:Program}{w:World}{H':Hp}{h':Heap}{kvs:List (Key×V)}{vs:List (Key×Value)}(z:kvs.length≤sizeLine)(hd:(a == sysModules)=false)(rel:KV kvs vs)(dd:h'.DictOf (aO P w) a vs) :
 aS P w H' h' a (.dK kvs):=⟨z,hd,vs,rel,dd⟩
theorem pB {H':Hp}{Q:Unit→Shared→Prop}(hu:A.units+1<cLine)(I:Inv X pins σ H s)(g:sn H a y v H')(ry:az y u)(rv:az v r)(h:∀ s',Inv X pins σ H' s'→Q () s') :
 wpAny (model X.prog X.w) A (setItem (.ref a) u r) Q E s:=by
 rcases g with⟨kvs,k,e,ey,l,eH⟩ | ⟨kvs,k,b,e,ey,eb,l,eH⟩
 ·subst ey eH
  obtain⟨z,hd,vs,rel,dd⟩:=qM I.hok e
  have hz:vs.length≤sizeLine:=by rw[←rel.length];exact z
  have hl:(cz kvs k v).length≤sizeLine:=by have:=eE kvs k v;lia
  refine wpAny_setItem_pairs (hsz:=hz) (fQ ry) dd fun h' dd' hs=>h _ ?_
  have he:∃ q,h'.get? a=some q:=let ⟨q,_,_,hq,_⟩:=dd';⟨q,hq⟩
  exact gU I (by rw[e];exact True.intro) hs he (ku hl hd (rel.put k rv) dd')
 ·subst ey eH
  cases (show u=Value.ref b from ry)
  obtain⟨z,hd,xs,rel,dd⟩:=uB I.hok e
  have hz:xs.length≤sizeLine:=by rw[←Paired.length rel];exact z
  have hl:(cz kvs k v).length≤sizeLine:=by have:=eE kvs k v;lia
  refine wpAny_setItem_heap (hsz:=hz) (tupleKind_room_in1 hu) (gc I.hok eb) dd fun h' dd' hs=>h _ ?_
  obtain⟨q,es,ep,hq,h2,h3,h4,_,h5⟩:=dd'
  refine gU I (by rw[e];exact True.intro) hs ⟨q,hq⟩ ⟨hl,hd,_,(rel.put k eb rv).keeps fun c ys ec=>?_,q,es,ep,hq,h2,h3,h4,h5⟩
  rw[aP (bz ec e (fun z=>nomatch z))]
  exact ec
end
section
variable {X:Cx}{pins:List (Addr×Obj)}{σ:St}{H:Hp}{s:Shared}{a:Addr}{kvs:List (Key×V)}{k:Key}{u:Value}{A:Around}{E:Value→Shared→Prop}
theorem uC {Q:Value→Shared→Prop}(I:Inv X pins σ H s)(e:Rd H a (.dK kvs))(h:∀ t s',Inv X pins σ H s'→Q (.int kvs.length t) s'):wpAny (model X.prog X.w) A (call (.builtin "len") [.ref a]) Q E s:=by
 obtain⟨z,hd,vs,rel,dd⟩:=eI I.hok e
 refine call_len_dict hd dd (by rw[←rel.length];rw[sizeLine_eq] at z;lia) ?_
 rw[←rel.length]
 exact h _ _ (I.tok _)
end
def uE (i:Expr):Prop:=∀ ov iv,subscripted i false ov iv=operate [ov,iv] (getItem ov iv)
theorem ri {prog:Program}{w:World}{A:Around}{E:Value→Shared→Prop}{s:Shared}{env:Env}{value slice:Expr}{pos:Pos}{T id:String}{Q:Value→Shared→Prop}
 (hl:typeLookup (.type T) "__getitem__" = pure (some (.builtin id))) (hs:uE slice)
 (h:wpAny (model prog w) A (eval value env) (fun o s₁=>wpAny (model prog w) A (eval slice env) (fun i s₂=>s₂.TypeIs o T∧wpAny (model prog w) A (getItem o i) Q E s₂) E s₁) E s) :
 wpAny (model prog w) A (eval (.Subscript value slice pos) env) Q E s:=by
 refine Subscript_ (wpAny_mono h (fun o s₁ h₁=>wpAny_mono h₁ (fun i s₂ h₂=>?_) fun _ _ x=>x) fun _ _ x=>x)
 obtain⟨hT,h₂⟩:=h₂
 unfold subscriptTail
 refine wpAny_bind ?_
 rw[getitemInPython_of_ne hT.not_modules]
 refine wpAny_bind (wpAny_specialOf hT hl ?_)
 have fin:wpAny (model prog w) A (subscripted slice false o i) (fun r s₃=>wpAny (model prog w) A (letTemporaryGo value o r >>= fun _=>pure r) Q E s₃) E s₂:=by
  rw[hs o i]
  exact wpAny_operating (wpAny_mono h₂ (fun r s₃ h₃=>wpAny_bind (wpAny_letTemporaryGo (wpAny_pure h₃))) fun _ _ x=>x)
 first
  | exact wpAny_pure (wpAny_bind fin)
  | exact wpAny_bind (wpAny_pure (wpAny_bind fin))
  | exact wpAny_bind fin
theorem l9 {X:Cx}{pins:List (Addr×Obj)}{σ:St}{H:Hp}{s:Shared}{a:Addr}{y:V}{o:Option V}(I:Inv X pins σ H s)(g:cD H a y o):s.TypeIs (.ref a) "dict" :=by
 rcases g with⟨kvs,k,e,_,_⟩ | ⟨kvs,k,b,e,_,_,_⟩
 ·obtain⟨_,_,vs,_,dd⟩:=eI I.hok e
  exact dd.typeIs
 ·obtain⟨_,_,xs,_,dd⟩:=iH I.hok e
  exact dd.typeIs
def ug (td ty:TE):TE:=fun σ H Q=>td σ H fun x H1=>ty σ H1 fun y H2=>∃ a v,x=.ref a∧cD H2 a y (some v)∧Q v H2
def uP (ty td:TE):TE:=fun σ H Q=>ty σ H fun y H1=>td σ H1 fun x H2=>∃ a o,x=.ref a∧cD H2 a y o∧Q (.bl o.isSome) H2
def rh (ty td:TE):TE:=fun σ H Q=>ty σ H fun y H1=>td σ H1 fun x H2=>∃ a o,x=.ref a∧cD H2 a y o∧Q (.bl (!o.isSome)) H2
section
variable {X:Cx}{o i e value:Expr}{pos pos' tpos:Pos}{td ty tv:TE}
theorem j7 (hu:X.A.units+1<cLine)(ho:PE X o td)(hi:PE X i ty)(hs:uE i):PE X (.Subscript o i pos) (ug td ty):=by
 intro pins s σ H Q I h
 refine ri PySem.F.slot_dict_getitem.lookup hs (thn (ho pins s σ H _ I h) fun u s1 ⟨x,H1,I1,rx,q1⟩=>thn (hi pins s1 σ H1 _ I1 q1) fun iv s2 ⟨y,H2,I2,ry,a,v,ex,g,q2⟩=>?_)
 subst ex
 obtain rfl:u=Value.ref a:=rx
 exact⟨l9 I2 g,pC hu I2 g ry fun w' s3 I3 rw'=>⟨v,H2,I3,rw',q2⟩⟩
theorem ql (hu:X.A.units+1<cLine)(hi:PE X i ty)(ho:PE X o td):PC X .In i o (uP ty td):=by
 intro pins s σ H Q I h
 refine thn (hi pins s σ H _ I h) fun iv s1 ⟨y,H1,I1,ry,q1⟩=>thn (ho pins s1 σ H1 _ I1 q1) fun u s2 ⟨x,H2,I2,rx,a,ov,ex,g,q2⟩=>?_
 subst ex
 obtain rfl:u=Value.ref a:=rx
 exact vc hu I2 g ry fun s3 I3=>⟨.bl ov.isSome,H2,I3,rfl,q2⟩
theorem f9 (hu:X.A.units+1<cLine)(hi:PE X i ty)(ho:PE X o td):PC X .NotIn i o (rh ty td):=by
 intro pins s σ H Q I h
 refine thn (hi pins s σ H _ I h) fun iv s1 ⟨y,H1,I1,ry,q1⟩=>thn (ho pins s1 σ H1 _ I1 q1) fun u s2 ⟨x,H2,I2,rx,a,ov,ex,g,q2⟩=>?_
 subst ex
 obtain rfl:u=Value.ref a:=rx
 exact r6 hu I2 g ry fun s3 I3=>⟨.bl (!ov.isSome),H2,I3,rfl,q2⟩
end
theorem l7 {P:Program}{w:World}{H:Hp}(h:Heap)(hb:sysModules<h.objs.size):aS P w H (h.push { cls:=.type "dict",data:=.dict #[] }) h.objs.size (.dK []) :=
 ⟨Nat.zero_le _,beq_eq_false_iff_ne.mpr (Ne.symm (Nat.ne_of_lt hb)),[],.nil,Heap.DictOf.new h⟩
def sM:TE:=fun _ H Q=>∀ p,H p=none→Q (.ref p) (upd H p (.dK []))
section
variable {X:Cx}{pos:Pos}
theorem qj:PE X (.Dict [] [] pos) sM:=fun pins s σ H Q I h =>
 wpAny_Dict_empty ⟨.ref s.heap.objs.size,_,I.laid (a:=s.heap.objs.size) (o:=.dK []) (t':=s.toks) (fun _ _ q=>Heap.get?_push_of_some _ q) (Nat.le_refl _) (l7 s.heap I.big),rfl,h _ (I.hok.fresh (Nat.le_refl _))⟩
end
def pO:List (TE×TE)→St→Hp→(List (V×V)→Hp→Prop)→Prop
 | [],_,H,Q=>Q [] H
 | (tk,tv) :: r,σ,H,Q=>tk σ H fun x H1=>tv σ H1 fun y H2=>pO r σ H2 fun ps H3=>Q ((x,y) :: ps) H3
abbrev VV:List (V×V)→List (Value×Value)→Prop:=Paired fun p q=>az p.1 q.1∧az p.2 q.2
def PPs (X:Cx)(pos:Pos)(keys:List (Option Expr))(values:List Expr)(trs:List (TE×TE)):Prop :=
 ∀ (pins:List (Addr×Obj)) (s:Shared) (σ:St) (H:Hp) (Q:List (V×V)→Hp→Prop),Inv X pins σ H s→pO trs σ H Q →
   wpAny (model X.prog X.w) X.A (evalPairs (pairTrees keys values X.env pos)) (fun vs s'=>∃ ps H',Inv X pins σ H' s'∧VV ps vs∧Q ps H') X.xe s
theorem rB {X:Cx}{pos:Pos}:PPs X pos [] [] []:=fun pins s σ H Q I h=>pairTrees_nil_walk ⟨[],H,I,.nil,h⟩
theorem qe {X:Cx}{pos:Pos}{k v:Expr}{ks:List (Option Expr)}{vs:List Expr}{tk tv:TE}{trs:List (TE×TE)}(hk:PE X k tk)(hv:PE X v tv)(hr:PPs X pos ks vs trs) :
 PPs X pos (some k :: ks) (v :: vs) ((tk,tv) :: trs):=fun pins s σ H Q I h =>
 pairTrees_cons_walk (thn (hk pins s σ H _ I h) fun u s1 ⟨x,H1,I1,rx,q1⟩=>thn (hv pins s1 σ H1 _ I1 q1) fun w2 s2 ⟨y,H2,I2,ry,q2⟩ =>
  thn (hr pins s2 σ H2 _ I2 q2) fun ws s3 ⟨ps,H3,I3,rel,q3⟩=>⟨(x,y) :: ps,H3,I3,.cons ⟨rx,ry⟩ rel,q3⟩)
def tD (kvs more:List (Key×V)):List (Key×V):=more.foldl (fun acc kv=>cz acc kv.1 kv.2) kvs
theorem KV.merge:∀ {more:List (Key×V)} {rs:List (Key×Value)} {kvs:List (Key×V)} {vs:List (Key×Value)},KV more rs→KV kvs vs→KV (tD kvs more) (merged vs rs):=by
 intro more rs kvs vs r
 unfold KV at r
 induction r generalizing kvs vs with
 | nil=>intro q;exact q
 | @cons p q ps qs h t ih =>
   intro r0
   have e:KV (cz kvs p.1 p.2) (stored vs q.1 q.2):=by
    have:=r0.put p.1 h.2
    rw[←h.1];exact this
   exact ih e
theorem iN {P:Program}{w:World}:∀ {kvs:List (Key×V)} {ws:List (Value×Value)},VV (kvs.map fun kv=>(kV kv.1,kv.2)) ws→∃ rs,Carries (aO P w) ws rs∧KV kvs rs
 | [],_,r=>by rw[map_nil] at r;cases r;exact⟨[],True.intro,.nil⟩
 | p :: kvs,_,r=>by
   rw[map_cons] at r
   cases r with
   | @cons a b as bs h t =>
     obtain⟨rs,c,q⟩:=iN (P:=P) (w:=w) t
     obtain⟨b1,b2⟩:=b
     exact⟨(p.1,b2) :: rs,⟨fQ h.1,rfl,c⟩,.cons ⟨rfl,h.2⟩ q⟩
structure M1 (X:Cx)(o:Expr)(m:Str)(apos:Pos)(e:Expr)(cpos:Pos):Prop where
 base:attributeBase o m X.env (eval o X.env)=eval o X.env
 few:((backTo cpos (starEach [e] X.env)).all (fun x=>!x.1) && (backToKw cpos (keywordEach [] X.env)).all (fun x=>x.1.isSome)
  && decide (([e]:List Expr).length+([]:List Keyword).length+(if ([]:List Keyword).isEmpty then 0 else 1)<30))=true
 line:(apos.endLine == cpos.line)=true
 trees:backTo cpos (starEach [e] X.env)=[(false,eval e X.env)]
structure M2 (X:Cx)(o:Expr)(m:Str)(apos:Pos)(e f:Expr)(cpos:Pos):Prop where
 base:attributeBase o m X.env (eval o X.env)=eval o X.env
 few:((backTo cpos (starEach [e,f] X.env)).all (fun x=>!x.1) && (backToKw cpos (keywordEach [] X.env)).all (fun x=>x.1.isSome)
  && decide (([e,f]:List Expr).length+([]:List Keyword).length+(if ([]:List Keyword).isEmpty then 0 else 1)<30))=true
 line:(apos.endLine == cpos.line)=true
 trees:backTo cpos (starEach [e,f] X.env)=[(false,eval e X.env),(false,eval f X.env)]
def IsD (H:Hp)(a:Addr):Prop:=(∃ kvs,Rd H a (.dK kvs))∨∃ kvs,Rd H a (.dT kvs)
theorem mZ {X:Cx}{pins:List (Addr×Obj)}{σ:St}{H:Hp}{s:Shared}{a:Addr}(I:Inv X pins σ H s)(d:IsD H a) :
 s.TypeIs (.ref a) "dict" ∧(∀ b,Value.ref a=.ref b→∃ ob,s.heap.get? b=some ob∧ob.dict=none)∧(a == sysModules)=false:=by
 rcases d with⟨kvs,e⟩ | ⟨kvs,e⟩
 ·obtain⟨_,hd,vs,_,dd⟩:=eI I.hok e
  refine⟨dd.typeIs,fun b q=>?_,hd⟩
  cases q
  obtain⟨ob,_,_,h1,h2,_⟩:=dd
  exact⟨ob,h1,h2.2.1⟩
 ·obtain⟨_,hd,xs,_,dd⟩:=iH I.hok e
  refine⟨dd.typeIs,fun b q=>?_,hd⟩
  cases q
  obtain⟨ob,_,_,h1,h2,_⟩:=dd
  exact⟨ob,h1,h2.2.1⟩
section
variable {X:Cx}{pins:List (Addr×Obj)}{σ:St}{H:Hp}{s:Shared}{a:Addr}{y d:V}{u r:Value}{o:Option V}{A:Around}{E:Value→Shared→Prop}
theorem tR {Q:Value→Shared→Prop}(hu:A.units+1<cLine)(I:Inv X pins σ H s)(g:cD H a y o)(ry:az y u)(rd:az d r)(h:∀ w' s',Inv X pins σ H s'→az (o.getD d) w'→Q w' s') :
 wpAny (model X.prog X.w) A (call (.builtin "dict.get") [.ref a,u,r]) Q E s:=by
 rcases g with⟨kvs,k,e,ey,l⟩ | ⟨kvs,k,b,e,ey,eb,l⟩
 ·subst ey
  obtain⟨z,hd,vs,rel,dd⟩:=eI I.hok e
  refine call_meetsIn PySem.F.slot_dict_get dd.typeIs PySem.F.entry_dict_get (PySem.F.args_dict_get_3 _ _ _) (meets_dict_get_default (aO X.prog X.w) a (fQ ry) hd r) ⟨_,dd.mapOf,h _ _ (I.tok _) ?_⟩
  rw[l]
  exact (rel.val k).getD rd
 ·subst ey
  cases (show u=Value.ref b from ry)
  obtain⟨z,hd,xs,rel,dd⟩:=iH I.hok e
  refine call_meetsIn PySem.F.slot_dict_get dd.typeIs PySem.F.entry_dict_get (PySem.F.args_dict_get_3 _ _ _) (meetsH_dict_get_default (tupleKind (aO X.prog X.w)) a b hd r) ⟨tupleKind_room_in1 hu,k,xs,gc I.hok eb,dd,h _ _ (I.tok _) ?_⟩
  rw[l]
  exact (rel.val k).getD rd
end
def sN (td ty tx:TE):TE:=fun σ H Q=>td σ H fun x H1=>∃ a,x=.ref a∧IsD H1 a∧ty σ H1 fun y H2=>tx σ H2 fun z H3=>∃ o,cD H3 a y o∧Q (o.getD z) H3
section
variable {X:Cx}{o e f:Expr}{apos cpos:Pos}{td ty tx:TE}
theorem er (hu:X.A.units+1<cLine)(ho:PE X o td)(he:PE X e ty)(hf:PE X f tx)(m:M2 X o "get" apos e f cpos):PE X (.Call (.Attribute o "get" apos) [e,f] [] cpos) (sN td ty tx):=by
 intro pins s σ H Q I h
 refine wpAny_Call_method m.base m.few m.line PySem.F.plainAttrs_dict PySem.F.slot_dict_get PySem.F.type_dict_get (thn (ho pins s σ H _ I h) fun u s1 ⟨x,H1,I1,rx,a,ex,d,q1⟩=>?_)
 subst ex
 obtain rfl:u=Value.ref a:=rx
 obtain⟨t1,t2,_⟩:=mZ I1 d
 refine⟨t1,t2,?_⟩
 rw[m.trees]
 refine Calls.callWith_builtin rfl (Calls.evalArgs_plain (Calls.spliced_cons (thn (he pins s1 σ H1 _ I1 q1) fun iv s2 ⟨y,H2,I2,ry,q2⟩ =>
  Calls.spliced_cons (thn (hf pins s2 σ H2 _ I2 q2) fun fv s3 ⟨z,H3,I3,rz,ov,g,q3⟩=>Calls.spliced_nil ?_))))
 exact tR hu I3 g ry rz fun w' s4 I4 rw'=>⟨_,H3,I4,rw',q3⟩
end
end L2
namespace Att
open PySem PySem.W PySem.Calls PyProof.Rows
theorem gC {P:Params}{h:Heap}:∀ (ns:List Int) (vs:List Value),WellAll P h vs (ns.map WData.int)→IntsAre vs ns:=by
 intro ns
 induction ns with
 | nil =>
   intro vs w
   rw[map_nil] at w
   cases w
   exact .nil
 | cons n ns ih =>
   intro vs w
   rw[map_cons] at w
   cases w with
   | cons a b =>
     cases a
     exact .cons _ _ (ih _ b)
theorem oC {l:OpenLaw}{n:Nat}(hn:l.most=some n){P:Params}{h:Heap}{args:List WData}{vals:List Value}
 (hpre:l.row.toRowW.claim.pre args=true) (hwl:WellAll P h vals args) :
 ∃ a vs ns,vals=[Value.ref a]∧args=[WData.list (ns.map WData.int)]∧h.get? a=some { cls:=.type "list",data:=.seq vs.toArray }∧IntsAre vs ns∧ns.length≤n:=by
 have hsh:WShape.hasAll [] args [.list .int]=true:=(pre_splitW hpre).1
 have hc:l.pre.holds [] { args:=args }=true:=(pre_splitW hpre).2
 obtain⟨d,r,rfl,h1,h2⟩:=hasAllW_cons hsh
 obtain rfl:=hasAllW_nil h2
 obtain⟨xs,rfl,h3⟩:=hasW_list h1
 obtain⟨ns,rfl⟩:=items_int h3
 have hlen:ns.length≤n:=by
  unfold OpenLaw.pre at hc
  have h4:(WTm.not (.lt (.lit (.int (n:Int))) (.len (.arg 0)))).holds [] { args:=[.list (ns.map .int)] }=true:=by
   have h4:=(holds_andW hc).1
   rw[hn] at h4
   exact h4
  have h5:=condW_of h4 (w_not (w_lt w_lit (w_len_list (w_arg rfl))))
  rw[length_map] at h5
  refine Nat.le_of_not_lt fun q=>?_
  have q':(n:Int)<((ns.length:Nat):Int):=by lia
  first
   | (rw[decide_eq_true q'] at h5;exact absurd h5 (by decide))
   | (simp at h5;omega)
 cases hwl with
 | cons w1 w2 =>
   cases w2
   cases w1 with
   | list ho hall=>exact⟨_,_,ns,rfl,rfl,ho,gC ns _ hall,hlen⟩
theorem oG (l:OpenLaw)(args:List WData):l.row.toRowW.claim.post args (.bool true) args=true :=
 postW_of (r:=l.row.toRowW) (X:=(true == true))
  (show WShape.has [] (.bool true) .bool=true by first | rfl | decide | simp[WShape.has,WShape.arms,WShape.armsAll])
  (show (WTm.eq .res (.lit (.bool true))).value [] { args:=args,res:=some (.bool true),after:=args }=some (.bool (true == true)) from w_eq_bool (w_res rfl) w_lit) rfl
theorem attach_call {l:OpenLaw}{n:Nat}{q:Program}{loose:List Str}{XP:(Str→Option Value)→Heap→Prop}{YP:World→Heap→Prop}{d:DefRec}
 (hn:l.most=some n) (hdf:d.params.defaults=[])
 (call:∀ (w:World) (s₀ s₁:Shared) (mg mb:Str→Option Value) (fa:Addr) (o:Obj) (pm cd doc:Value) (a:Addr) (vs:List Value) (ns:List Int),
  Ground q loose [] XP w s₀ mg mb s₁.heap→YP w s₁.heap →
  s₁.heap.get? fa=some o→o.data=.func (docDef d.name d.params d.body d.scope pm cd doc)→s₁.heap.CodeRec cd d.name→mg d.name=some (.ref fa) →
  s₁.heap.get? a=some { cls:=.type "list",data:=.seq vs.toArray }→IntsAre vs ns→ns.length≤n→s₁.gens=#[] →
  codeAny (model l.prog w) callerA (.call (.ref fa) ⟨[.ref a],[]⟩) (fun r s'=>r=.ok (.ret (.bool true))∧OldK s₁.heap s'.heap∧s'.os=s₁.os∧AllBare s'.gens) s₁) :
 WalkO q loose XP YP l.row.toRowW d [] (fun f vs=>PySem.call f vs):=by
 intro w s₀ s₁ mg mb G Y fa o pm cd doc dV kV ho hd hcd hD hmg hg args vals as hpre hlay hrd hwl hlo
 obtain rfl:dV=.none:=Dflts.none hD hdf
 obtain rfl:kV=.none:=Dflts.noKw hD
 obtain⟨a,vs,ns,rfl,rfl,hobj,hints,hlen⟩:=oC hn hpre hwl
 refine enter_call (codeAny_mono (call w s₀ s₁ mg mb fa o pm cd doc a vs ns G Y ho (fd_plain hd) hcd hmg hobj hints hlen hg) fun r s' hq=>?_)
 obtain⟨rfl,h2,h3,h4⟩:=hq
 exact⟨.inl ⟨.bool true,.bool true,[],rfl,fun _=>rfl,.bool true,oG l _,fun _=>⟨List.Pairwise.nil,fun _ hm=>(nomatch hm)⟩⟩,h2,h3,h4⟩
end Att
namespace L2
open PySem PySem.Spec PyProof.Rows
theorem fX:∀ {vs:List Value} {ns:List Int},IntsAre vs ns→aB (ns.map V.int) vs
 | _,_,.nil=>.nil
 | _,_,.cons n t h=>.cons ⟨t,rfl⟩ (fX h)
def sj (H:Hp):Prop:=∀ b,H b=none∨∃ o xs,H b=some (.frz o (.lst xs))
theorem qx {P:Program}{w:World}{K:PySem.W.Frag}{mg mb:Str→Option Value}{CX:CXT}{k:Nat}{fa a:Addr}{fd:FuncData}{x:Str}{sp:Sp}{s₁:Shared}{vs:List Value}{ns:List Int}
 (KX:K.In s₁.heap) (hns:s₁.heap.Ns mainGlobals mg) (hb:s₁.heap.Ns builtinsNs mb) (hbb:∀ x:Str,x≠"__name__" →mb x=bootBuiltins x) (hlim:s₁.heap.NoLimit) (hg:s₁.gens=#[])
 (ha:s₁.heap.get? a=some { cls:=.type "list",data:=.seq vs.toArray }) (hi:IntsAre vs ns) (hl:ns.length≤sizeLine) (hr:dh k callerA)
 (F:∀ base:Heap,K.In base→base.Ns mainGlobals mg→bh P w K mg base CX k fa fd [x] sp) (hbind:∀ (s:Shared) (u:Value),BindsTo s fd ⟨[u],[]⟩ [(x,u)])
 (hsp:∀ H:Hp,sj H→SqL K H a (ns.map V.int)→sp [.ref a] H (fun v _=>v=.bl true) fun _ _ _=>False)
 (hCX:∀ H e s',CX [] H s₁ (fun _ _ _=>False) e s'→False) :
 codeAny (model P w) callerA (.call (.ref fa) ⟨[.ref a],[]⟩) (fun r s'=>r=.ok (.ret (.bool true))∧OldK s₁.heap s'.heap∧s'.os=s₁.os∧AllBare s'.gens) s₁:=by
 have rv:=fX hi
 have lenV:=hi.length
 have core:∀ H:Hp,sj H→SqL K H a (ns.map V.int)→HOk P w H s₁.heap→(∀ b,H b≠none→b=a)→(H a≠none→K.lookup a=none) →
  codeAny (model P w) callerA (.call (.ref fa) ⟨[.ref a],[]⟩) (fun r s'=>r=.ok (.ret (.bool true))∧OldK s₁.heap s'.heap∧s'.os=s₁.os∧AllBare s'.gens) s₁:=by
  intro H hO hS hok hA hK
  have base_of:∀ {b:Addr} {o:Obj},s₁.heap.get? b=some o→H b=none→(kq s₁.heap H).get? b=some o:=fun e n=>qH e n
  have noA:∀ {b:Addr} {o:Obj} {es:Array DictEntry} {ep:Nat},s₁.heap.get? b=some o→o.data=.dict es ep→H b=none:=fun {b o es ep} e d=>by
   cases q:H b with
   | none=>rfl
   | some u =>
     have e':b=a:=hA b (by rw[q];simp)
     subst e'
     rw[ha] at e;cases e
     have d':Data.seq vs.toArray _=Data.dict es ep:=d
     cases d'
  have nsK:∀ {b:Addr} {m:Str→Option Value},s₁.heap.Ns b m→(kq s₁.heap H).Ns b m:=fun {b m} ⟨o,es,ep,e,d,r⟩=>⟨o,es,ep,base_of e (noA e d),d,r⟩
  have hKb:K.In (kq s₁.heap H):=fun b o e=>base_of (KX b o e) (by
   cases q:H b with
   | none=>rfl
   | some u =>
     have e':b=a:=hA b (by rw[q];simp)
     subst e'
     rw[hK (by rw[q];simp)] at e;cases e)
  have hM:Mod K mg (kq s₁.heap H):=⟨hKb,nsK hns,⟨mb,nsK hb,hbb⟩,let ⟨mc,h1,h2⟩:=hlim;⟨mc,nsK h1,h2⟩⟩
  have e0:sk P w K mg (kq s₁.heap H) callerA [] s₁ H:=⟨rfl,hM,fun b o e=>rJ e,Nat.le_of_eq (o9 _ _),trivial,fun b hb=>absurd (show b∈([]:List Addr) from hb) (by simp),hok,.of_eq hg⟩
  refine codeAny_mono ((F _ hKb (nsK hns)).run callerA [] s₁ H ⟨[.ref a],[]⟩ [.ref a] [.ref a] _ _ hr e0 (hbind s₁ (.ref a)) (.cons rfl .nil) (hsp H hO hS)) fun r s' h=>?_
  cases r with
  | error e=>exact (hCX H e s' h).elim
  | ok fl =>
    cases fl with
    | next=>exact False.elim h
    | brk=>exact False.elim h
    | cont=>exact False.elim h
    | ret u =>
      obtain⟨v,H',os,bare,un,hok',r',q⟩:=h
      have q':v=.bl true:=q
      subst q'
      obtain rfl:u=Value.bool true:=r'
      refine⟨rfl,OldK.of_keep fun b o e=>?_,os,bare⟩
      cases q:H b with
      | none=>exact un.keep b o e q (by intro z;exact absurd (show b∈([]:List Addr) from z) (by simp)) (by simp)
      | some u =>
        rcases hO b with z | ⟨ob,xs,z⟩
        ·rw[q] at z;cases z
        ·have z2:=un.frzs b ob _ z
         obtain⟨e1,_⟩:=hok b _ z
         obtain⟨e2,_⟩:=hok' b _ z2
         rw[e] at e1;cases e1
         exact e2
 cases hk:K.lookup a with
 | some o =>
   have e:=KX a o hk
   rw[ha] at e
   cases e
   refine core (fun _=>none) (fun _=>.inl rfl) (.inr ⟨_,vs.toArray,_,hk,rfl,rfl,rfl,by rw[size_toArray,lenV];exact hl,by simpa using rv⟩) (fun b u z=>by have z':(none:Option HO)=some u:=z;cases z') (fun b z=>absurd rfl z) fun z=>absurd rfl z
 | none =>
   refine core (fun b=>if b=a then some (.frz { cls:=.type "list",data:=.seq vs.toArray } (.lst (ns.map V.int))) else none) (fun b=>?_) (.inl (.inr ⟨{ cls:=.type "list",data:=.seq vs.toArray },if_pos rfl⟩)) (fun b u z=>?_) (fun b z=>?_) fun _=>hk
   ·by_cases hb:b=a
    ·exact .inr ⟨_,_,if_pos hb⟩
    ·exact .inl (if_neg hb)
   ·by_cases hb:b=a
    ·have z':=(if_pos hb).symm.trans z
     cases z'
     subst hb
     exact⟨ha,by rw[length_map];exact hl,vs,_,rv,ha⟩
    ·have z':=(if_neg hb).symm.trans z
     cases z'
   ·by_cases hb:b=a
    ·exact hb
    ·exact absurd (if_neg hb) z
end L2
namespace L2
open PySem PySem.Spec PyProof.Rows
abbrev KOf {K:PySem.W.Frag}{h:Heap}(_:K.In h):PySem.W.Frag:=K
theorem q9 {l:PySem.W.OpenLaw}{n k:Nat}{q:Program}{loose:List Str}{XP:(Str→Option Value)→Heap→Prop}{YP:World→Heap→Prop}{d:DefRec}{K:Params→PySem.W.Frag}{CX:World→CXT}{sp:World→Sp}{x:Str}
 (hn:l.most=some n) (hn2:n≤sizeLine) (hdf:d.params.defaults=[]) (hr:dh k callerA)
 (hY:∀ (w:World) (h:Heap),YP w h→(K w.params).In h)
 (F:∀ (w:World) (mg:Str→Option Value) (fa:Addr) (h:Heap),(K w.params).In h→h.Ns mainGlobals mg→mg d.name=some (.ref fa) →
  ∃ fd:FuncData,(∀ (s:Shared) (u:Value),BindsTo s fd ⟨[u],[]⟩ [(x,u)]) ∧
    ∀ base:Heap,(K w.params).In base→base.Ns mainGlobals mg→bh l.prog w (K w.params) mg base (CX w) k fa fd [x] (sp w))
 (hsp:∀ (w:World) (H:Hp) (a:Addr) (ns:List Int),ns.length≤n→sj H→SqL (K w.params) H a (ns.map V.int)→sp w [.ref a] H (fun v _=>v=.bl true) fun _ _ _=>False)
 (hCX:∀ (w:World) (H:Hp) (s:Shared) (e:Value) (s':Shared),CX w [] H s (fun _ _ _=>False) e s'→False) :
 PySem.W.WalkO q loose XP YP l.row.toRowW d [] (fun f vs=>PySem.call f vs):=by
 refine Att.attach_call hn hdf fun w s₀ s₁ mg mb fa o pm cd doc a vs ns G Y ho hd hcd hmg hobj hints hlen hg=>?_
 have KX:=hY w _ Y
 obtain⟨fd,hb,hF⟩:=F w mg fa _ KX G.T.g hmg
 exact qx KX G.T.g G.T.b G.T.builtins G.T.nolimit hg hobj hints (Nat.le_trans hlen hn2) hr hF hb (fun H hO hS=>hsp w H a ns hlen hO hS) fun H e s'=>hCX w H s₁ e s'
end L2
namespace L2
open PySem PySem.Spec PyProof.Rows
abbrev CX0:CXT:=fun _ _ _ _ _ _=>False
abbrev E0:XK:=fun _ _ _=>False
theorem uq {X:Cx}:ng CX0 X E0:=fun _ _ _ _ _ _ _ h=>h.elim
structure Fun (K:PySem.W.Frag)(x qual:Str)(st:Stmt)(f:Addr)(fd:FuncData):Prop where
 ex:∃ (oc:Value) (od:Option Addr) (kV doc pm:Value) (an:Option Addr) (cdv ct:Value) (osl:Array (Option Value)),
  fd=PySem.W.fnOf x qual (defArgs st) (defBody st) (defScope st) .none kV doc pm an cdv ct∧K.lookup f=some ⟨oc,od,.func fd,osl⟩∧PySem.W.codeIn K cdv qual=true
 kp:PySem.W.keepIn K (.ref f)=true
section
variable {P:Program}{w:World}{K:PySem.W.Frag}{mg:Str→Option Value}{base:Heap}
theorem Fun.ok {x qual:Str}{st:Stmt}{f:Addr}{fd:FuncData}{N ps:List Str}{k:Nat}{sp:Sp}(F:Fun K x qual st f fd)(S:au N ps (defScope st))(len:∀ vs H Q E,sp vs H Q E→vs.length=ps.length)
 (hbody:∀ (cdv:Value) (A:Around) (outer:List Env) (s:Shared) (H:Hp) (vs:List V) (Q:VK) (E:XK),dh k (A.deeper (envOfC qual (defScope st) s.heap.objs.size f cdv))→sp vs H Q E →
  ∃ t,PSs (pE CX0 P w K mg base N qual (defScope st) f cdv A outer s H E).nox (defBody st) t∧t { nx:=fun _ H'=>Q .non H',rt:=Q } (gt N vs) H):bh P w K mg base CX0 (k+1) f fd ps sp:=by
 obtain⟨oc,od,kV,doc,pm,an,cdv,ct,osl,rfl,lk,hcd⟩:=F.ex
 refine uA lk hcd S len fun A outer s H vs Q E hr hsp=>?_
 obtain⟨t,h,q⟩:=hbody cdv A outer s H vs Q E hr hsp
 exact⟨t,h.nox,q⟩
theorem Fun.binds {x qual:Str}{st:Stmt}{f:Addr}{fd:FuncData}{ps:List Str}(F:Fun K x qual st f fd)
 (h:∀ (kV doc pm:Value) (an:Option Addr) (cdv ct:Value) (us:List Value),us.length=ps.length→bindArgs (PySem.W.fnOf x qual (defArgs st) (defBody st) (defScope st) .none kV doc pm an cdv ct) ⟨us,[]⟩=pure (ps.zip us)):jN K fd ps []:=by
 obtain⟨oc,od,kV,doc,pm,an,cdv,ct,osl,rfl,lk,hcd⟩:=F.ex
 exact .all (h kV doc pm an cdv ct)
theorem qK {x qual:Str}{st:Stmt}{f:Addr}{oc:Value}{od an:Option Addr}{osl:Array (Option Value)}{kV doc pm cdv ct:Value}(l:K.lookup f=some ⟨oc,od,.func (PySem.W.fnOf x qual (defArgs st) (defBody st) (defScope st) .none kV doc pm an cdv ct),osl⟩)
 (c:PySem.W.codeIn K cdv qual=true) (k:PySem.W.keepIn K (.ref f)=true):Fun K x qual st f (PySem.W.fnOf x qual (defArgs st) (defBody st) (defScope st) .none kV doc pm an cdv ct):=⟨⟨oc,od,kV,doc,pm,an,cdv,ct,osl,rfl,l,c⟩,k⟩
end
theorem aZ {A:Around}{k:Nat}(hr:dh k A):A.units+1<cLine:=Nat.lt_of_le_of_lt (Nat.add_le_add_left (by decide:1≤64) _) hr.units
theorem jn {n:Nat}(h:n≤1000):n<sizeLine:=Nat.lt_of_le_of_lt h (by decide)
section
variable {X:Cx}
theorem pv (i:Nat){x:Str}{pos:Pos}(hN:X.N[i]? = some x:=by rfl)(hv:Vis X.env.scope x:=by first | exact Or.inl rfl | exact Or.inr (Or.inl rfl) | exact Or.inr (Or.inr rfl))(hd:(x == ("__debug__" : Str))=false:=by decide)
 (hcd:(x == ("__classdict__" : Str))=false:=by decide):PE X (.Name x pos) (t6 i):=ti hN hv hd hcd
theorem jG:bQ X (.builtin "len") (fun xs H Q=>∃ a kvs,xs=[V.ref a]∧H a=some (.dK kvs)∧Q (.int kvs.length) H):=by
 intro pins s σ H xs us Q I r h
 obtain⟨a,kvs,rfl,ha,q⟩:=h
 obtain⟨u,rfl,ru⟩:=dL r
 cases ru
 exact uC I (.inl ha) fun t s' I'=>⟨.int kvs.length,H,I',⟨t,rfl⟩,q⟩
end
theorem u7 {A B:Prop}(h:B):if false=true then A else B:=by
 rw[if_neg Bool.false_ne_true]
 exact h
theorem u5 {A B:Prop}(h:A):if true=true then A else B:=by
 rw[if_pos rfl]
 exact h
theorem cc {c A B:Prop}[Decidable c](h1:c→A)(h2:¬ c→B):if c then A else B:=by
 by_cases h:c
 ·rw[if_pos h]
  exact h1 h
 ·rw[if_neg h]
  exact h2 h
theorem sG {c A B:Prop}[Decidable c](hc:c)(h:B):if (!decide c)=true then A else B:=by
 rw[decide_eq_true hc]
 exact u7 h
def ak (H H':Hp):Prop:=∀ b o,H b=some o→H' b=some o
theorem ak.refl (H:Hp):ak H H:=fun _ _ h=>h
theorem ak.trans {H H1 H2:Hp}(a:ak H H1)(b:ak H1 H2):ak H H2:=fun c o h=>b c o (a c o h)
theorem ak.free {H H':Hp}(e:ak H H'){l:Addr}(h:H' l=Option.none):H l=Option.none:=by
 cases q:H l with
 | none=>rfl
 | some o =>
   rw[e l o q] at h
   cases h
theorem ak.seq {K:PySem.W.Frag}{H H':Hp}{a:Addr}{xs:List V}(e:ak H H')(h:SqL K H a xs):SqL K H' a xs:=by
 rcases h with (h | ⟨o,h⟩) | h
 ·exact .inl (.inl (e _ _ h))
 ·exact .inl (.inr ⟨o,e _ _ h⟩)
 ·exact .inr h
end L2
namespace L2
open PySem PySem.Spec PyProof.Rows
structure New (H:Hp)(l:Addr)(o:HO)(H2:Hp):Prop where
 was:H l=none
 is:H2 l=some o
 oth:∀ b,b≠l→H2 b=H b
theorem New.upd {H:Hp}{l:Addr}{o:HO}(h:H l=none):New H l o (upd H l o):=⟨h,dX,fun b hb=>aP hb⟩
theorem New.same {H H2:Hp}{l:Addr}{o:HO}(n:New H l o H2):ak H H2:=fun b u e=>by rw[n.oth b (aQ e n.was)];exact e
theorem New.ne {H H2:Hp}{l b:Addr}{o u:HO}(n:New H l o H2)(e:H b=some u):b≠l:=aQ e n.was
structure Chg (H:Hp)(l:Addr)(o:HO)(H2:Hp):Prop where
 is:H2 l=some o
 oth:∀ b,b≠l→H2 b=H b
theorem Chg.upd {H:Hp}{l:Addr}{o:HO}:Chg H l o (upd H l o):=⟨dX,fun b hb=>aP hb⟩
theorem Chg.same {H0 H H2:Hp}{l:Addr}{o:HO}(c:Chg H l o H2)(s:ak H0 H)(hn:H0 l=none):ak H0 H2:=fun b u e=>by rw[c.oth b (aQ e hn)];exact s b u e
theorem ak.none {H H':Hp}(s:ak H H'){l:Addr}(h:H' l=Option.none):H l=Option.none:=s.free h
def Sq (H:Hp)(a:Addr)(xs:List V):Prop:=Rd H a (.lst xs)∨Rd H a (.tup xs)
theorem Sq.lst {H:Hp}{a:Addr}{xs:List V}(h:H a=some (.lst xs)):Sq H a xs:=.inl (.inl h)
theorem Sq.tup {H:Hp}{a:Addr}{xs:List V}(h:H a=some (.tup xs)):Sq H a xs:=.inr (.inl h)
theorem PE.imp {X:Cx}{e:Expr}{t t':TE}(h:PE X e t)(i:∀ σ H Q,t' σ H Q→t σ H Q):PE X e t':=fun pins s σ H Q I q=>h pins s σ H Q I (i σ H Q q)
theorem IxR.imp {X:Cx}{r r':R2}(h:IxR X r)(i:∀ x y H Q,r' x y H Q→r x y H Q):IxR X r':=by
 intro value slice pins s σ H x y v u Q I rx ry q hs
 exact h value slice pins s σ H x y v u Q I rx ry (i _ _ _ _ q) hs
theorem bQ.imp {X:Cx}{f:Value}{r r':List V→Hp→VK→Prop}(h:bQ X f r)(i:∀ xs H Q,r' xs H Q→r xs H Q):bQ X f r':=fun pins s σ H xs us Q I rx q=>h pins s σ H xs us Q I rx (i xs H Q q)
theorem OpR.imp {X:Cx}{f:Value→Value→Sem Value}{r r':R2}(h:OpR X f r)(i:∀ x y H Q,r' x y H Q→r x y H Q):OpR X f r':=fun pins s σ H x y v u Q I rx ry q=>h pins s σ H x y v u Q I rx ry (i x y H Q q)
def eY (σ:St):List (Option Nat)→St
 | []=>[]
 | none :: r=>none :: eY σ r
 | some j :: r=>(σ.getD j none) :: eY σ r
theorem eh (σ:St):∀ ix,(eY σ ix).length=ix.length
 | []=>rfl
 | none :: r=>by rw[eY,length_cons,length_cons,eh σ r]
 | some j :: r=>by rw[eY,length_cons,length_cons,eh σ r]
theorem hX (σ:St):∀ {ix:List (Option Nat)} {i:Nat} {v:V},(eY σ ix)[i]? = some (some v)→∃ j,ix[i]? = some (some j)∧σ[j]? = some (some v)
 | [],i,v,h=>by simp[eY] at h
 | none :: r,0,v,h=>by simp[eY] at h
 | none :: r,i+1,v,h=>by
   obtain⟨j,h1,h2⟩:=hX σ (ix:=r) (i:=i) (v:=v) (by simpa[eY] using h)
   exact⟨j,by simpa using h1,h2⟩
 | some j :: r,0,v,h=>by
   refine⟨j,by simp,?_⟩
   simp only[eY,List.getElem?_cons_zero,Option.some.injEq] at h
   rw[getD_eq_getElem?_getD] at h
   cases e:σ[j]? with
   | none=>rw[e] at h;simp at h
   | some o=>rw[e] at h;simp at h;rw[h]
 | some j :: r,i+1,v,h=>by
   obtain⟨j',h1,h2⟩:=hX σ (ix:=r) (i:=i) (v:=v) (by simpa[eY] using h)
   exact⟨j',by simpa using h1,h2⟩
def gm (osc sc:Scope)(N N':List Str)(ix:List (Option Nat)):Bool :=
 decide (sc.kind=.function) && sc.names.all (fun y=>decide (y.2≠.cell)) && sc.names.all (fun y=>!decide (y.2=.local) || decide (sc.names.lookup y.1=some .local)) &&
 sc.names.all (fun y=>!decide (y.2=.free) || decide (osc.names.lookup y.1=some .cell)) && decide N'.Nodup && decide (ix.length=N'.length) &&
 (N'.zip ix).all (fun p=>match p.2 with | none=>true | some j=>decide (N[j]? = some p.1) && decide (sc.names.lookup p.1=some .free))
structure nh (osc sc:Scope)(N N':List Str)(ix:List (Option Nat)):Prop where
 kind:sc.kind=.function
 nocell:∀ y∈sc.names,y.2≠.cell
 loc:∀ y∈sc.names,y.2=.local→sc.names.lookup y.1=some .local
 fre:∀ y∈sc.names,y.2=.free→osc.names.lookup y.1=some .cell
 nd:N'.Nodup
 len:ix.length=N'.length
 map:∀ (i:Nat) (x:Str) (j:Nat),N'[i]? = some x→ix[i]? = some (some j)→N[j]? = some x∧sc.names.lookup x=some .free
theorem jE {osc sc:Scope}{N N':List Str}{ix:List (Option Nat)}(h:gm osc sc N N' ix=true):nh osc sc N N' ix:=by
 simp only[gm,Bool.and_eq_true,decide_eq_true_eq,List.all_eq_true,Bool.or_eq_true,Bool.not_eq_true',decide_eq_false_iff_not] at h
 obtain⟨⟨⟨⟨⟨⟨h1,h2⟩,h3⟩,h4⟩,h5⟩,h6⟩,h7⟩:=h
 refine⟨h1,h2,fun y hy e=>(h3 y hy).elim (fun z=>absurd e z) id,fun y hy e=>(h4 y hy).elim (fun z=>absurd e z) id,h5,h6,fun i x j e1 e2=>?_⟩
 have hm:(x,some j)∈N'.zip ix:=by
  have:(N'.zip ix)[i]? = some (x,some j):=by rw[List.getElem?_zip_eq_some];exact⟨e1,e2⟩
  exact mem_of_getElem? this
 have q:=h7 _ hm
 simpa using q
theorem iB {α β:Type}{f:α→β→Sem (ForInStep β)}{g:α→β→β}:∀ (l:List α) (b:β),(∀ x∈l,∀ c,f x c=pure (.yield (g x c)))→forIn l b f=(pure (l.foldl (fun b x=>g x b) b):Sem β)
 | [],b,_=>by rw[List.forIn_nil];rfl
 | x :: l,b,h=>by
   rw[List.forIn_cons,h x mem_cons_self b,pure_bind]
   exact iB l (g x b) fun y hy=>h y (mem_cons_of_mem _ hy)
def bP (cells:List (Str×Addr))(x:Str×NameKind)(cs:List (Str×Addr)):List (Str×Addr) :=
 if x.2=.free then (x.1,(cells.lookup x.1).getD 0) :: cs else cs
def iM (cells:List (Str×Addr))(names:List (Str×NameKind)):List (Str×Addr):=names.foldl (fun cs x=>bP cells x cs) []
theorem ff {scope:Scope}{env:Env}(h:∀ y∈scope.names,y.2=.free→∃ c,env.cells.lookup y.1=some c):closureFor scope env=pure (iM env.cells scope.names):=by
 simp only[closureFor]
 rw[iB (g:=bP env.cells) scope.names [] (fun x hx c=>by
  obtain⟨n,k⟩:=x
  by_cases hk:k=.free
  ·subst hk
   obtain⟨a,e⟩:=h _ hx rfl
   have e':env.cells.lookup n=some a:=e
   simp only[beq_self_eq_true,if_true,cellOf,e',pure_bind,bP,Option.getD_some]
  ·have hb:(k == NameKind.free)=false:=by simpa using hk
   simp only[hb,Bool.false_eq_true,if_false,bP,if_neg hk])]
 rfl
theorem kz {cells:List (Str×Addr)}:∀ (names:List (Str×NameKind)) (cs:List (Str×Addr)),(∀ y∈names,y.2=.free→∃ c,cells.lookup y.1=some c)→(∀ x c,cs.lookup x=some c→cells.lookup x=some c) →
 ∀ x c,(names.foldl (fun cs x=>bP cells x cs) cs).lookup x=some c→cells.lookup x=some c
 | [],cs,_,hc,x,c,e=>hc x c e
 | y :: names,cs,h,hc,x,c,e=>by
   rw[foldl_cons] at e
   refine kz names (bP cells y cs) (fun z hz=>h z (mem_cons_of_mem _ hz)) (fun x' c' e'=>?_) x c e
   unfold bP at e'
   split at e'
   ·rename_i hk
    obtain⟨a,ea⟩:=h y mem_cons_self hk
    rw[ea,Option.getD_some,lookup_cons] at e'
    by_cases hx:x'=y.1
    ·subst hx
     simp at e'
     rw[ea,e']
    ·have hb:(x' == y.1)=false:=by simpa using hx
     rw[hb] at e'
     exact hc x' c' e'
   ·exact hc x' c' e'
theorem me {cells:List (Str×Addr)}:∀ (names:List (Str×NameKind)) (cs:List (Str×Addr)) (x:Str),(∃ c,cs.lookup x=some c)→∃ c,(names.foldl (fun cs x=>bP cells x cs) cs).lookup x=some c
 | [],cs,x,h=>h
 | y :: names,cs,x,h=>by
   rw[foldl_cons]
   refine me names _ x ?_
   unfold bP
   split
   ·rw[lookup_cons]
    by_cases hx:(x == y.1)=true
    ·rw[hx];exact⟨_,rfl⟩
    ·have hb:(x == y.1)=false:=by simpa using hx
     rw[hb];exact h
   ·exact h
theorem kA {cells:List (Str×Addr)}:∀ (names:List (Str×NameKind)) (cs:List (Str×Addr)) (x:Str),(x,NameKind.free)∈names→∃ c,(names.foldl (fun cs x=>bP cells x cs) cs).lookup x=some c
 | [],cs,x,h=>nomatch h
 | y :: names,cs,x,h=>by
   rw[foldl_cons]
   rcases mem_cons.mp h with e | h
   ·refine me names _ x ?_
    subst e
    unfold bP
    rw[if_pos rfl,lookup_cons]
    simp
   ·exact kA names _ x h
theorem cm {env:Env}:∀ {names:List (Str×NameKind)} {x:Str},names.lookup x=some .free →
 (names.map fun (n,k)=>if (k == NameKind.free && env.scope.kind == .function && env.kindOf n == some .cell) then (n,NameKind.cell) else (n,k)).lookup x=some .cell ∨
 (names.map fun (n,k)=>if (k == NameKind.free && env.scope.kind == .function && env.kindOf n == some .cell) then (n,NameKind.cell) else (n,k)).lookup x=some .free
 | [],_,h=>by simp at h
 | (n,k) :: r,x,h=>by
   have ih:=@cm env r x
   show List.lookup x ((if (k == NameKind.free && env.scope.kind == .function && env.kindOf n == some .cell)=true then (n,NameKind.cell) else (n,k)) :: _)=_∨List.lookup x ((if (k == NameKind.free && env.scope.kind == .function && env.kindOf n == some .cell)=true then (n,NameKind.cell) else (n,k)) :: _)=_
   cases hx:x == n with
   | true =>
     simp only[lookup_cons,hx] at h
     cases h
     by_cases hc:(NameKind.free == NameKind.free && env.scope.kind == .function && env.kindOf n == some .cell)=true
     ·left;rw[if_pos hc];simp only[lookup_cons,hx]
     ·right;rw[if_neg hc];simp only[lookup_cons,hx]
   | false =>
     simp only[lookup_cons,hx] at h
     by_cases hc:(k == NameKind.free && env.scope.kind == .function && env.kindOf n == some .cell)=true
     ·rw[if_pos hc];simp only[lookup_cons,hx];exact ih h
     ·rw[if_neg hc];simp only[lookup_cons,hx];exact ih h
theorem eZ {env:Env}:∀ {names:List (Str×NameKind)} {x:Str},(∀ y∈names,y.2≠.cell) →
 ((names.map fun (n,k)=>if (k == NameKind.free && env.scope.kind == .function && env.kindOf n == some .cell) then (n,NameKind.cell) else (n,k)).lookup x=some .cell ∨
 (names.map fun (n,k)=>if (k == NameKind.free && env.scope.kind == .function && env.kindOf n == some .cell) then (n,NameKind.cell) else (n,k)).lookup x=some .free)→(x,NameKind.free)∈names
 | [],_,_,h=>by simp at h
 | (n,k) :: r,x,hn,h=>by
   have ih:=@eZ env r x (fun y hy=>hn y (mem_cons_of_mem _ hy))
   have h2:List.lookup x ((if (k == NameKind.free && env.scope.kind == .function && env.kindOf n == some .cell)=true then (n,NameKind.cell) else (n,k)) :: (r.map fun (n,k)=>if (k == NameKind.free && env.scope.kind == .function && env.kindOf n == some .cell) then (n,NameKind.cell) else (n,k)))=some .cell∨List.lookup x ((if (k == NameKind.free && env.scope.kind == .function && env.kindOf n == some .cell)=true then (n,NameKind.cell) else (n,k)) :: (r.map fun (n,k)=>if (k == NameKind.free && env.scope.kind == .function && env.kindOf n == some .cell) then (n,NameKind.cell) else (n,k)))=some .free:=h
   clear h
   by_cases hc:(k == NameKind.free && env.scope.kind == .function && env.kindOf n == some .cell)=true
   ·rw[if_pos hc] at h2
    have hk:k=.free:=by
     simp only[Bool.and_eq_true,beq_iff_eq] at hc
     exact hc.1.1
    by_cases hx:(x == n)=true
    ·have:x=n:=by simpa using hx
     subst this;subst hk;exact mem_cons_self
    ·have hb:(x == n)=false:=by simpa using hx
     simp only[lookup_cons,hb] at h2
     exact mem_cons_of_mem _ (ih h2)
   ·rw[if_neg hc] at h2
    by_cases hx:(x == n)=true
    ·simp only[lookup_cons,hx,Option.some.injEq] at h2
     have e:x=n:=by simpa using hx
     subst e
     rcases h2 with h | h
     ·exact absurd h (hn (x,k) mem_cons_self)
     ·subst h;exact mem_cons_self
    ·have hb:(x == n)=false:=by simpa using hx
     simp only[lookup_cons,hb] at h2
     exact mem_cons_of_mem _ (ih h2)
def aV (X:Cx)(sc:Scope)(N':List Str)(C:Addr)(s:Shared)(H:Hp)(fp:List Addr):Cx where
 prog:=X.prog
 w:=X.w
 K:=X.K
 mg:=X.mg
 base:=X.base
 A:=X.A
 N:=N'
 s₀:=s
 H₀:=H
 env:=compEnvC sc (iM X.env.cells sc.names) C X.env
 outer:=X.stack
 stack:=X.stack
 ex:=fp
 fn:=fun _=>false
 calm:=X.calm
 pn:=X.pn
 xe:=fun _ _=>False
section
variable {X:Cx}{pins:List (Addr×Obj)}{σ:St}{H:Hp}{s:Shared}
theorem sd {sc:Scope}{N':List Str}{ix:List (Option Nat)}{C:Addr}{fp:List Addr}(I:Inv X pins σ H s)(S:nh X.env.scope sc X.N N' ix)(hC:s.heap.objs.size≤C)(hf:∀ b∈fp,kF X pins H b)(hx:∀ b∈fp,∃ o,s.heap.get? b=some o) :
 (aV X sc N' C s H fp).Ok:=by
 have has:∀ y∈sc.names,y.2=.free→∃ c,X.env.cells.lookup y.1=some c:=fun y hy e=>I.ok.has y.1 (.inl (S.fre y hy e))
 have sub:∀ x c,(iM X.env.cells sc.names).lookup x=some c→X.env.cells.lookup x=some c:=kz sc.names [] has (fun x c e=>by simp at e)
 refine⟨I.ok.mod,S.kind,I.ok.glob,I.ok.blt,hC,fun x y c h1 h2=>I.ok.inj x y c (sub x c h1) (sub y c h2),fun x hx=>?_,fun x c h _=>absurd (show false=true from h) Bool.false_ne_true,I.ok.hd,I.ok.frames,.inl rfl,fun b hb=>⟨?_,fun x c e z=>?_⟩,I.bs,Nat.le_trans I.ok.bsz I.sz,
  fun b o e hb=>?_,fun b hb hz=>?_,I.stack,I.stkFree⟩
 ·exact kA sc.names [] x (eZ S.nocell hx)
 ·obtain⟨o,e⟩:=hx b hb
  exact Nat.ne_of_lt (Nat.lt_of_lt_of_le (Heap.lt_size e) hC)
 ·exact (hf b hb).2.2.2.2.1 x c (sub x c e) z
 ·obtain⟨f0,f1,f2,f3,f4,f5⟩:=hf b hb
  have:=I.ok.bs b o e
  rcases f3 with z | z
  ·exact I.ok.noex b o e z
  ·exact absurd (Nat.lt_of_lt_of_le (Heap.lt_size this.1) z) (Nat.lt_irrefl _)
 ·obtain⟨f0,f1,f2,f3,f4,f5⟩:=hf b hb
  rcases mem_cons.mp (I.stkSub b hz) with e | e
  ·exact f1 e
  ·exact f2 e
end
end L2
namespace L2
open PySem PySem.Spec PyProof.Rows
theorem gb {a b n:Nat}(h:a<n)(h':n≤b):a≠b:=Nat.ne_of_lt (Nat.lt_of_lt_of_le h h')
abbrev NoE:Value→Shared→Prop:=fun _ _=>False
theorem ky {prog:Program}{w:World}{A:Around}{R:Result→Shared→Prop}{s:Shared}{elt target iter:Expr}{ifs:List Expr}{scope:Scope}{pos:Pos}{it acc:Value}{env:Env}(I:Nat→Shared→Prop)
 (turn:∀ n s,I n s→wpAny (model prog w) A (pyNext it) (fun r s₁=>match r with
  | none=>R (.ok .next) s₁
  | some v=>wpAny (model prog w) A (letOwnedTupleGo target it v) (fun _ s₁'=>wpAny (model prog w) A (assign target env v) (fun _ s₂ =>
   wpAny (model prog w) A (forIn ifs true fun c r=>if r=true then do let ok ←isTrue c env (eval c env);pure (ForInStep.yield ok) else pure (ForInStep.yield r)) (fun ok s₃ =>
    if ok=true then wpAny (model prog w) A (eval elt env) (fun x s₄ =>
     wpAny (model prog w) A (call (.builtin "list.append") [acc,x]) (fun _ s₅=>∃ m,m<n∧I m s₅) NoE s₄) NoE s₃
    else ∃ m,m<n∧I m s₃) NoE s₂) NoE s₁') NoE s₁) NoE s)
 (n:Nat) (h:I n s) :
 codeAny (model prog w) A (.compLoop (.ListComp elt [⟨target,iter,ifs,0⟩] scope pos) 0 it acc env) R s:=by
 refine codeAny_loop rfl I (fun n s hI=>?_) n h
 show wpAny _ A ((compTurn (.ListComp elt [⟨target,iter,ifs,0⟩] scope pos) 0 it acc env).onRaise (fun x=>do noteFrame x env;theTreesLotGoes x)) _ _ s
 refine wpAny_noted ?_
 rw[compTurn_list]
 refine wpAny_bind (wpAny_standAt (wpAny_bind (wpAny_mono (turn n s hI) (fun r s₁ h₁=>?_) fun _ _ h'=>h'.elim)))
 cases r with
 | none=>exact wpAny_pure h₁
 | some v =>
   refine wpAny_bind (wpAny_mono h₁ (fun _ s₁' h₁'=>?_) fun _ _ h'=>h'.elim)
   refine wpAny_bind (wpAny_mono h₁' (fun _ s₂ h₂=>wpAny_bind (wpAny_mono h₂ (fun ok s₃ h₃=>?_) fun _ _ h'=>h'.elim)) fun _ _ h'=>h'.elim)
   cases ok with
   | false=>exact wpAny_pure ⟨rfl,h₃⟩
   | true =>
     exact wpAny_bind (wpAny_bind (wpAny_mono h₃ (fun x s₄ h₄=>wpAny_bind (wpAny_mono h₄ (fun _ s₅ h₅=>wpAny_pure (wpAny_pure ⟨rfl,h₅⟩)) fun _ _ h'=>h'.elim)) fun _ _ h'=>h'.elim))
def PTs (X:Cx)(ifs:List Expr)(t:TT):Prop :=
 ∀ (pins:List (Addr×Obj)) (s:Shared) (σ:St) (H:Hp) (Q:Bool→Hp→Prop),Inv X pins σ H s→t σ H Q →
   wpAny (model X.prog X.w) X.A (forIn ifs true fun c r=>if r=true then do let ok ←isTrue c X.env (eval c X.env);pure (ForInStep.yield ok) else pure (ForInStep.yield r)) (TP X pins σ Q) X.xe s
def uF:TT:=fun _ H Q=>Q true H
theorem cZ {X:Cx}:PTs X [] uF:=fun _ _ _ H _ I h=>wpAny_tests_nil ⟨H,I,h⟩
theorem gO {X:Cx}{c:Expr}{t:TT}(h:PT X c t):PTs X [c] t:=fun pins s σ H Q I q=>wpAny_tests_one (h pins s σ H Q I q)
abbrev iu (its:List Value)(k:Nat):Obj:={ cls:=.type "list",data:=.seq its.toArray k }
theorem Inv.track {X:Cx}{pins:List (Addr×Obj)}{σ:St}{H:Hp}{s:Shared}{D:Addr}{o:HO}(I:Inv X pins σ H s)(hn:H D=none)(h1:D∈X.ex∨X.s₀.heap.objs.size≤D)(hL:D≠X.env.locals)
 (h2:∀ x c,X.env.cells.lookup x=some c→c≠D) (h3:∀ p∈X.pn++pins,p.1≠D) (new:aS X.prog X.w (upd H D o) s.heap D o):Inv X pins σ (upd H D o) s:=by
 refine I.step (h':=s.heap) (g':=s.gens) (t':=s.toks) (d':=s.drawn) (ch:=[D]) (fun b hb=>?_) (fun b ob _ _ _ e _=>e) (fun b ob _ _ _ e _=>⟨ob.slots,e⟩) (fun b ob hc _ n=>?_) (fun b ob _ e=>⟨ob,e⟩) (fun b xs e=>?_) (fun b ob u e=>?_) (fun b ps e=>?_) (fun m hm=>hm) (fun b u e=>?_) I.bare
 ·have e:b=D:=by simpa using hb
  subst e;exact⟨h1,hL,h2,h3⟩
 ·rw[aP (by simpa using hc)];exact n
 ·rw[aP (aQ e hn)];exact e
 ·rw[aP (aQ e hn)];exact e
 ·exact⟨#[],by rw[aP (aQ e hn),e];simp⟩
 ·by_cases hb:b=D
  ·subst hb;rw[dX] at e;cases e;exact new
  ·rw[aP hb] at e
   exact (I.hok b u e).stay (fun c v _ q=>q) (fun c q=>by rw[aP (aQ q hn)];exact q) fun c xs q=>by rw[aP (aQ q hn)];exact q
def rg (ix:List (Option Nat))(J:It)(g:TG)(tc:TT)(te:TE)(σ:St)(H1:Hp)(Q:VK):Prop :=
 ∃ W:Nat→Nat→St→Hp→List V→Prop,(∃ m,W 0 m (eY σ ix) H1 [])∧∀ i m σ H ys,W i m σ H ys →
   (J.stop i H∧ys.length≤sizeLine∧∀ D H2,New H D (.lst ys) H2→Q (.ref D) H2) ∨
   (J.go i H∧ys.length<sizeLine∧∀ x H',J.yld i H x H'→g x σ H' fun σ2 H2=>tc σ2 H2 fun b H3=>if b=true then te σ2 H3 fun v H4=>∃ m',m'<m∧W (i+1) m' σ2 H4 (ys++[v]) else ∃ m',m'<m∧W (i+1) m' σ2 H3 ys)
def tLC (ix:List (Option Nat))(wi:TI)(g:TG)(tc:TT)(te:TE):TE:=fun σ H Q=>wi σ H fun J H1=>rg ix J g tc te σ H1 Q
section
variable {X:Cx}{tg elt iter:Expr}{ifs:List Expr}{sc:Scope}{N':List Str}{ix:List (Option Nat)}{g:TG}{tc:TT}{te:TE}{pos:Pos}
theorem iL {pins:List (Addr×Obj)}{σ:St}{H:Hp}{s:Shared}{E:Value→Shared→Prop}{it:Addr}{fp:List Addr}{tn:Nat→Heap→Prop}{J:It}{Q:VK}{RR:Value→Addr→Result→Shared→Prop}
 (hc:X.calm=true) (S:nh X.env.scope sc X.N N' ix)
 (hg:∀ C s H fp,PG (aV X sc N' C s H fp) tg g) (ht:∀ C s H fp,PTs (aV X sc N' C s H fp) ifs tc) (he:∀ C s H fp,PE (aV X sc N' C s H fp) elt te)
 (I:Inv X pins σ H s) (T:nc X.prog X.w X.K tg J fp it tn) (st:tn 0 s.heap) (f:∀ b∈fp,kF X pins H b) (q:rg ix J g tc te σ H Q)
 (hRR:∀ D C s' H' m,Inv X pins σ H' s'→Q (.ref D) H'→s'.heap.Ns C m→H' C=none→s.heap.objs.size≤C→RR (.ref D) C (.ok .next) s') :
 wpAny (model X.prog X.w) X.A (newList []) (fun acc s₃=>wpAny (model X.prog X.w) X.A (newFunctionEnv sc X.env.globals (iM X.env.cells sc.names) [] X.env.qual none .none (some X.env)) (fun cenv s₄ =>
  codeAny (model X.prog X.w) X.A (.compStart (.ListComp elt [⟨tg,iter,ifs,0⟩] sc pos) 0 (.ref it) acc { cenv with scope:=relabel sc X.env }) (RR acc cenv.locals) s₄) E s₃) E s:=by
 refine wpAny_newObj_type (wpAny_newFunctionEnv S.nocell (by intro y hy;simp at hy) (fun h₁ hns₁ hsb₁=>?_) S.kind)
 dsimp only at hns₁ hsb₁ ⊢
 generalize hH2:s.heap.push { cls:=.type "list",dict:=none,data:=.seq ([]:List Value).toArray }=H2 at hns₁ hsb₁ ⊢
 have hC:H2.objs.size=s.heap.objs.size+1:=by rw[←hH2,Heap.size_push]
 generalize hCe:H2.objs.size=C at hns₁ hsb₁ hC ⊢
 generalize hDe:s.heap.objs.size=D at hC ⊢
 have hDC:D≠C:=by lia
 have hCle:s.heap.objs.size≤C:=by lia
 have hDle:s.heap.objs.size≤D:=by lia
 have old:∀ b o,s.heap.get? b=some o→h₁.get? b=some o:=fun b o e=>by
  have hb:=Heap.lt_size e
  exact hsb₁.extBut b o (gb hb hCle) (Heap.get?_push_of_some _ (hH2▸Heap.get?_push_of_some _ e))
 have hD0:h₁.get? D=some (iu [] 0):=by
  refine hsb₁.extBut _ _ hDC (Heap.get?_push_of_some _ ?_)
  rw[←hH2,←hDe]
  exact Heap.get?_push_size _ rfl
 have fpx:∀ b∈fp,∃ o,s.heap.get? b=some o:=fun b hb=>by
  obtain⟨o,e,_⟩:=T.obj 0 s.heap st b hb
  exact⟨o,e⟩
 have fpD:∀ b∈fp,b≠D:=fun b hb z=>by
  obtain⟨o,e⟩:=fpx b hb
  exact gb (Heap.lt_size e) hDle z
 have ok':(aV X sc N' C s H fp).Ok:=sd I S hCle f fpx
 have has:∀ y∈sc.names,y.2=.free→∃ c,X.env.cells.lookup y.1=some c:=fun y hy e=>I.ok.has y.1 (.inl (S.fre y hy e))
 have sub:∀ x c,(iM X.env.cells sc.names).lookup x=some c→X.env.cells.lookup x=some c:=kz sc.names [] has (fun x c e=>by simp at e)
 have clt:∀ x c,(iM X.env.cells sc.names).lookup x=some c→c<s.heap.objs.size:=fun x c e=>by
  obtain⟨v,z⟩:=I.cell x c (sub x c e)
  exact z.lt
 have nfs:∀ b,s.heap.objs.size≤b→b∉frs X.stack:=fun b hb hz=>by
  rcases mem_cons.mp (I.stkSub b hz) with e | e
  ·exact gb I.lt hb e.symm
  ·exact I.nofs hb e
 have plt:∀ p∈X.pn++pins,p.1<s.heap.objs.size:=fun p hp=>Heap.lt_size (I.pin p hp).1
 have I0:∀ tk,Inv (aV X sc N' C s H fp) pins (eY σ ix) H { s with heap:=h₁,toks:=tk }:=fun tk=>by
  refine⟨ok',rfl,I.bare,Un.kept old,⟨_,hns₁,fun i x v h1 h2 h3=>?_⟩,fun x c e=>?_,I.hok.fresh hCle,fun x c e=>I.freeC x c (sub x c e),fun p hp=>?_,I.hok.kept old,?_⟩
  ·obtain⟨j,e1,e2⟩:=hX σ h2
   obtain⟨e3,e4⟩:=S.map i x j h1 e1
   obtain⟨m,hn,hl⟩:=I.loc
   have hk:X.env.scope.names.lookup x=some .cell:=S.fre (x,.free) (PySem.mem_of_lookup e4) rfl
   obtain⟨u,r,l⟩:=hl j x v e3 e2 (.inr (.inl hk))
   rcases l with⟨l,_⟩ | ⟨_,c,ec,z⟩
   ·have l':X.env.scope.names.lookup x=some .local:=l
    rw[hk] at l';cases l'
   ·obtain⟨c',ec'⟩:=kA (cells:=X.env.cells) sc.names [] x (PySem.mem_of_lookup e4)
    have ec2:=sub x c' ec'
    rw[ec] at ec2;cases ec2
    exact⟨u,r,.inr ⟨cm e4,c,ec',z.keeps old⟩⟩
  ·obtain⟨v,z⟩:=I.cell x c (sub x c e)
   exact⟨v,z.keeps old⟩
  ·obtain⟨e,n,ne,nf,d⟩:=I.pin p hp
   have:=plt p hp
   refine⟨old _ _ e,n,?_,fun hz=>?_,d⟩
   ·show p.1≠C
    exact gb this hCle
   ·rcases mem_cons.mp (I.stkSub p.1 hz) with e' | e'
    ·exact ne e'
    ·exact nf e'
  ·rw[eh,S.len];rfl
 have pinD:∀ {σ':St} {H':Hp} {s':Shared} {its:List Value} {k:Nat} {pl:List (Addr×Obj)},Inv (aV X sc N' C s H fp) pl σ' H' s'→H' D=none→s'.heap.get? D=some (iu its k)→Inv (aV X sc N' C s H fp) (pl++[(D,iu its k)]) σ' H' s' :=
  fun {σ' H' s' its k pl} J hn e=>J.pins_of fun p hp=>by
   rcases mem_append.mp hp with z | z
   ·exact J.pin p (mem_append_right _ z)
   ·have z:p=(D,iu its k):=by simpa using z
    subst z
    exact⟨e,hn,hDC,nfs D hDle,fun v z=>by cases z⟩
 have stat:∀ {H':Hp} {its:List Value} {k:Nat},(∀ b∈fp,H' b=none)→∀ b∈fp,kF (aV X sc N' C s H fp) (pins++[(D,iu its k)]) H' b:=fun {H' its k} hn b hb=>by
  obtain⟨f0,f1,f2,f3,f4,f5⟩:=f b hb
  refine⟨hn b hb,?_,fun hz=>?_,.inl hb,fun x c e=>f4 x c (sub x c e),fun p hp=>?_⟩
  ·exact (ok'.exf b hb).1
  ·exact ok'.exfs b hb hz
  ·rcases mem_append.mp hp with z | z
   ·exact f5 p (mem_append_left _ z)
   ·rcases mem_append.mp z with z | z
    ·exact f5 p (mem_append_right _ z)
    ·have z:p=(D,iu its k):=by simpa using z
     subst z
     exact fun q=>fpD b hb q.symm
 obtain⟨W,⟨m0,w0⟩,turn⟩:=q
 have loop:∀ tk,codeAny (model X.prog X.w) X.A (.compLoop (.ListComp elt [⟨tg,iter,ifs,0⟩] sc pos) 0 (.ref it) (.ref D) (compEnvC sc (iM X.env.cells sc.names) C X.env)) (RR (.ref D) C) { s with heap:=h₁,toks:=tk }:=by
  intro tk
  refine ky (fun n s'=>∃ i σ' H' ys its k,Inv (aV X sc N' C s H fp) (pins++[(D,iu its k)]) σ' H' s'∧tn i s'.heap∧(∀ b∈fp,H' b=none)∧aB ys its∧W i n σ' H' ys) ?_ m0
   ⟨0,eY σ ix,H,[],[],0,pinD (I0 tk) (I.hok.fresh hDle) hD0,T.keep _ _ _ st fun b hb o e=>old b o e,fun b hb=>(f b hb).1,.nil,w0⟩
  rintro n s3 ⟨i,σ3,H3,ys,its,k,I3,st3,fr3,rv,w3⟩
  have pD:∀ {σ':St} {H':Hp} {s':Shared} {pl:List (Addr×Obj)},Inv (aV X sc N' C s H fp) (pins++[(D,iu its k)]++pl) σ' H' s'→s'.heap.get? D=some (iu its k)∧H' D=none:=fun J=>by
   obtain⟨a,b,_⟩:=J.pin (D,iu its k) (by simp)
   exact⟨a,b⟩
  rcases turn i n σ3 H3 ys w3 with⟨stop,hz,qn⟩ | ⟨go,hz,step⟩
  ·refine thn (T.done (aV X sc N' C s H fp) rfl rfl rfl hc i _ s3 σ3 H3 NoE I3 (stat fr3) st3 stop) fun r s4 ⟨hr,I4⟩=>?_
   subst hr
   obtain⟨e4,n4⟩:=pD (pl:=[]) (by simpa using I4)
   have I4':Inv (aV X sc N' C s H fp) pins σ3 H3 s4:=I4.unpinned
   have I5:Inv (aV X sc N' C s H fp) pins σ3 (upd H3 D (.lst ys)) s4:=I4'.track n4 (.inr hDle) hDC (fun x c e=>gb (clt x c e) hDle) (fun p hp=>gb (plt p hp) hDle) ⟨hz,its,k,rv,e4⟩
   obtain⟨m,hn,_⟩:=I5.loc
   refine hRR D C s4 (upd H3 D (.lst ys)) m ?_ (qn D _ (.upd n4)) hn I5.free hCle
   exact I.call' I5.os I5.base I5.hok I5.bare fun b hb=>by
    obtain⟨f0,f1,f2,f3,f4,f5⟩:=f b hb
    exact⟨f3,f1,f4,f5⟩
  ·refine thn (T.item (aV X sc N' C s H fp) rfl rfl rfl hc i _ s3 σ3 H3 NoE I3 (stat fr3) st3 go) fun r s4 ⟨u,hr,h4⟩=>?_
   subst hr
   refine thn h4 fun _ s5 ⟨x,H5,I5,r5,y5,st5,fr5⟩=>?_
   have I5':=I5.pinned (stat fr5) (T.obj _ _ st5)
   refine thn (hg C s H fp _ s5 σ3 H5 x u _ I5' r5 (step x H5 y5)) fun _ s6 ⟨σ6,H6,I6,q6⟩=>?_
   refine thn (ht C s H fp _ s6 σ6 H6 _ I6 q6) fun b s7 ⟨H7,I7,q7⟩=>?_
   have keeps:∀ {σ8:St} {H8:Hp} {s8:Shared},Inv (aV X sc N' C s H fp) (pins++[(D,iu its k)]++hV fp s5.heap) σ8 H8 s8→(∀ b∈fp,∀ o,s5.heap.get? b=some o→s8.heap.get? b=some o)∧∀ b∈fp,H8 b=none:=fun {σ8 H8 s8} J=>by
    refine⟨fun b hb o e=>(J.pin (b,o) (mem_append_right _ (mem_append_right _ (dD hb e)))).1,fun b hb=>?_⟩
    obtain⟨o,e,d⟩:=T.obj _ _ st5 b hb
    exact (J.pin (b,o) (mem_append_right _ (mem_append_right _ (dD hb e)))).2.1
   cases b with
   | false =>
     rw[if_neg Bool.false_ne_true] at q7
     rw[if_neg Bool.false_ne_true]
     obtain⟨m',hm,w7⟩:=q7
     obtain⟨k1,k2⟩:=keeps I7
     exact⟨m',hm,i+1,σ6,H7,ys,its,k,I7.unpinned,T.keep _ _ _ st5 k1,k2,rv,w7⟩
   | true =>
     rw[if_pos rfl] at q7
     rw[if_pos rfl]
     refine thn (he C s H fp _ s7 σ6 H7 _ I7 q7) fun u8 s8 ⟨v8,H8,I8,r8,q8⟩=>?_
     obtain⟨m',hm,w8⟩:=q8
     obtain⟨k1,k2⟩:=keeps I8
     obtain⟨e8,n8⟩:=pD I8
     have hl:=rv.length
     refine wpAny_list_append_plain (items:=its.toArray) ⟨k,e8⟩ (fun h9 hl9 hs9=>?_) (by simp only[size_toArray];lia)
     obtain⟨k9,e9⟩:=hl9
     have I8':Inv (aV X sc N' C s H fp) pins σ6 H8 s8:=I8.unpinned.unpinned
     have I9:Inv (aV X sc N' C s H fp) pins σ6 H8 { s8 with heap:=h9,toks:=s8.toks }:=I8'.turned (it:=D) (fun b o hb e=>(hs9.2 b hb).trans e) n8 hDC (.inr hDle) (fun x c e=>gb (clt x c e) hDle) (fun p hp=>gb (plt p hp) hDle)
     refine⟨m',hm,i+1,σ6,H8,ys++[v8],its++[u8],k9,pinD I9 n8 (by simpa using e9),?_,k2,rv.append (.cons r8 .nil),w8⟩
     refine T.keep _ _ _ (T.keep _ _ _ st5 k1) fun b hb o e=>?_
     exact (hs9.2 b (fpD b hb)).trans e
 exact codeAny_compStart_list (loop _) (T.self _ 0 _ _ _ (T.keep _ _ _ st fun b hb o e=>old b o e) (loop _))
theorem fc {wi:TI}(hc:X.calm=true)(S:gm X.env.scope sc X.N N' ix=true)(hi:PI X tg iter wi)
 (hg:∀ C s H fp,PG (aV X sc N' C s H fp) tg g) (ht:∀ C s H fp,PTs (aV X sc N' C s H fp) ifs tc) (he:∀ C s H fp,PE (aV X sc N' C s H fp) elt te)
 (hs:∀ x,foldedSetIterable iter X.env x=pure x:=by intro _;rfl):PE X (.ListComp elt [⟨tg,iter,ifs,0⟩] sc pos) (tLC ix wi g tc te):=by
 intro pins s σ H Q I h
 have S:=jE S
 have has:∀ y∈sc.names,y.2=.free→∃ c,X.env.cells.lookup y.1=some c:=fun y hy e=>I.ok.has y.1 (.inl (S.fre y hy e))
 rw[eval_ListComp]
 refine wpAny_comprehension_free (use:=none) rfl hs (ff has) S.kind S.loc (thn (hi pins s σ H _ I h) fun v s1 h1=>thn h1 fun itv s2 h2=>?_)
 obtain⟨it,fp,tn,J,H2,e,I2,T,st2,f2,q⟩:=h2
 subst e
 refine iL (RR:=fun acc C=>compPost (model X.prog X.w) X.A X.xe none (EP X pins σ Q) acc C) hc S hg ht he I2 T st2 f2 q fun D C s' H' m I' q' hn hC hCl=>?_
 refine⟨m,hn,fun h' hsb=>?_⟩
 have I'':Inv X pins σ H' { s' with heap:=h',toks:=s'.toks }:=I'.turned (it:=C) (fun b o hb e=>(hsb.2 b hb).trans e) hC (Nat.ne_of_gt (Nat.lt_of_lt_of_le I2.lt hCl)) (.inr (Nat.le_trans I2.sz hCl))
  (fun x c e=>by obtain⟨v,z'⟩:=I2.cell x c e;exact gb z'.lt hCl) (fun p hp=>gb (Heap.lt_size (I2.pin p hp).1) hCl)
 exact⟨.ref D,H',I'',rfl,q'⟩
theorem sD {wi:TI}{i:Nat}{y:Str}{py spos:Pos}(hc:X.calm=true)(S:gm X.env.scope sc X.N N' ix=true)(hN:X.N.Nodup)(hy:X.N[i]? = some y)(hl:X.env.scope.names.lookup y=some .local)(hi:PI X tg iter wi)
 (hg:∀ C s H fp,PG (aV X sc N' C s H fp) tg g) (ht:∀ C s H fp,PTs (aV X sc N' C s H fp) ifs tc) (he:∀ C s H fp,PE (aV X sc N' C s H fp) elt te)
 (hsw:swapsWith (.ListComp elt [⟨tg,iter,ifs,0⟩] sc pos) (some (.Name y py)) spos.line X.env=pure true:=by rfl)
 (hs:∀ x,foldedSetIterable iter X.env x=pure x:=by intro _;rfl):PS X (.Assign [.Name y py] (.ListComp elt [⟨tg,iter,ifs,0⟩] sc pos) spos) (sP (tLC ix wi g tc te) (qJ i)):=by
 intro pins s σ H D I h
 have S:=jE S
 have has:∀ y∈sc.names,y.2=.free→∃ c,X.env.cells.lookup y.1=some c:=fun y hy e=>I.ok.has y.1 (.inl (S.fre y hy e))
 rw[exec_Assign_Name_used _ _ _ _ hsw]
 refine wpAny_bind (wpAny_standAt (wpAny_bind ?_))
 show wpAny _ X.A (do let _ ←comprehension (.ListComp elt [⟨tg,iter,ifs,0⟩] sc pos) sc X.env _ (newList []) false (eval iter X.env) (some (assign (.Name y py) X.env))) _ _ s
 refine wpAny_bind (wpAny_mono (wpAny_comprehension_free (use:=some (assign (.Name y py) X.env)) (Q:=fun _ s'=>SP X pins D .next s') rfl hs (ff has) S.kind S.loc
  (thn (hi pins s σ H _ I h) fun v s1 h1=>thn h1 fun itv s2 h2=>?_)) (fun _ s' hq=>wpAny_pure (wpAny_pure hq)) fun _ _ e=>e)
 obtain⟨it,fp,tn,J,H2,e,I2,T,st2,f2,q⟩:=h2
 subst e
 refine iL (RR:=fun acc C=>compPost (model X.prog X.w) X.A X.xe (some (assign (.Name y py) X.env)) (fun _ s'=>SP X pins D .next s') acc C) hc S hg ht he I2 T st2 f2 q fun D' C s' H' m I' q' hn hC hCl=>?_
 show wpAny _ X.A (assign (.Name y py) X.env (.ref D')) _ _ _
 refine wpAny_assign_Name (jj I' hN hy (.inl hl) (show az (.ref D') (.ref D') from rfl) (fun s2 I2' ⟨a,hsa,ha⟩=>?_) (.inr hl))
 have haC:C≠a:=by
  rcases ha with z | z
  ·rw[z];exact Nat.ne_of_gt (Nat.lt_of_lt_of_le I2.lt hCl)
  ·intro z'
   obtain⟨v,z2⟩:=I2.cell y a z
   exact gb z2.lt hCl z'.symm
 refine⟨m,hn.sameBut hsa haC,fun h' hsb=>?_⟩
 have I'':Inv X pins (σ.set i (some (.ref D'))) H' { s2 with heap:=h',toks:=s2.toks }:=I2'.turned (it:=C) (fun b o hb e=>(hsb.2 b hb).trans e) hC (Nat.ne_of_gt (Nat.lt_of_lt_of_le I2.lt hCl)) (.inr (Nat.le_trans I2.sz hCl))
  (fun x c e=>by obtain⟨v,z'⟩:=I2.cell x c e;exact gb z'.lt hCl) (fun p hp=>gb (Heap.lt_size (I2.pin p hp).1) hCl)
 exact⟨_,H',I'',q'⟩
end
end L2
namespace L2
open PySem PySem.Spec PyProof.Rows
section
variable {X:Cx}{a b e o:Expr}{ta tb te to:TE}{pos:Pos}
def uX:R2:=fun x y H Q=>∃ p xs i v,x=.ref p∧y=.int i∧Sq H p xs∧atI xs i=some v∧Q v H
theorem aY:IxR X uX:=(nS.or tL).imp fun x y H Q ⟨p,xs,i,v,h1,h2,h3,h4,h5⟩=>by
 rcases h3 with h3 | h3
 ·exact .inl ⟨p,xs,i,v,h1,h2,.inl h3,h4,h5⟩
 ·exact .inr ⟨p,xs,i,v,h1,h2,.inl h3,h4,h5⟩
def um:List V→Hp→VK→Prop:=fun xs H Q=>∃ p ys,xs=[.ref p]∧Sq H p ys∧Q (.int ys.length) H
theorem bR:bQ X (.builtin "len") um:=fU.imp fun xs H Q ⟨p,ys,h1,h2,h3⟩=>⟨p,ys,h1,h2.imp .inl .inl,h3⟩
def sX:List V→Hp→VK→Prop:=fun xs H Q=>∃ p ys,xs=[.ref p]∧Sq H p ys∧∀ l H2,New H l (.lst ys) H2→Q (.ref l) H2
theorem tE:bQ X (.type "list") sX:=kB.imp fun xs H Q ⟨p,ys,h1,h2,h3⟩=>⟨p,ys,h1,h2.imp .inl .inl,fun l hl=>h3 l _ (.upd hl)⟩
def uS:V→Option Int→Option Int→Hp→VK→Prop:=fun x lo hi H Q=>∃ a xs,x=.ref a∧Rd H a (.lst xs)∧∀ p H2,New H p (.lst (iJ xs lo hi)) H2→Q (.ref p) H2
theorem SlR.imp {r r':V→Option Int→Option Int→Hp→VK→Prop}(h:SlR X r)(i:∀ x lo hi H Q,r' x lo hi H Q→r x lo hi H Q):SlR X r':=fun pins s σ H x v vl vu lo hi sl Q I rx hs pl pu q=>h pins s σ H x v vl vu lo hi sl Q I rx hs pl pu (i x lo hi H Q q)
theorem ui:SlR X uS:=nJ.imp fun x lo hi H Q ⟨a,xs,h1,h2,h3⟩=>⟨a,xs,h1,.inl h2,fun p hp=>h3 p _ (.upd hp)⟩
def t7 (t:TA):TE:=fun σ H Q=>t σ H fun xs H1=>xs.length≤sizeLine∧∀ p H2,New H1 p (.tup xs) H2→Q (.ref p) H2
def pQ (t:TA):TE:=fun σ H Q=>t σ H fun xs H1=>xs.length≤sizeLine∧∀ p H2,New H1 p (.lst xs) H2→Q (.ref p) H2
variable {es:List Expr}{t:TA}
theorem bM {x1}(h:PA X es t):PE X (.Tuple es x1 pos) (t7 t):=by
 intro pins s σ H Q I hq
 refine wpAny_Tuple_spliced (thn (h pos pins s σ H _ I hq) fun us s1 ⟨xs,H1,I1,r,z,q⟩=>⟨by rw[←r.length];exact z,?_⟩)
 have hf:H1 s1.heap.objs.size=none:=I1.hok.fresh (Nat.le_refl _)
 refine⟨.ref s1.heap.objs.size,L2.upd H1 s1.heap.objs.size (.tup xs),I1.laid (t':=s1.toks) (fun b u e=>Heap.get?_push_of_some _ e) (Nat.le_refl _) ?_,rfl,q _ _ (.upd hf)⟩
 exact⟨z,us,r,⟨_,Heap.get?_push_size _ rfl,rfl,_,rfl⟩⟩
theorem aC (h:PA X es t):PE X (.List es pos) (pQ t):=by
 intro pins s σ H Q I hq
 refine wpAny_List_spliced (thn (h pos pins s σ H _ I hq) fun us s1 ⟨xs,H1,I1,r,z,q⟩=>⟨by rw[←r.length];exact z,?_⟩)
 have hf:H1 s1.heap.objs.size=none:=I1.hok.fresh (Nat.le_refl _)
 refine⟨.ref s1.heap.objs.size,L2.upd H1 s1.heap.objs.size (.lst xs),I1.laid (t':=s1.toks) (fun b u e=>Heap.get?_push_of_some _ e) (Nat.le_refl _) ?_,rfl,q _ _ (.upd hf)⟩
 exact⟨z,us,0,r,Heap.get?_push_size _ rfl⟩
def up:R2:=fun x y H Q=>∃ l b xs zs,x=.ref l∧y=.ref b∧H l=some (.lst xs)∧H b=some (.lst zs)∧xs.length+zs.length≤sizeLine∧∀ p H2,New H p (.lst (xs++zs)) H2→Q (.ref p) H2
theorem qQ:OpR X (binaryOp .Add) up:=tm.imp fun x y H Q ⟨l,b,xs,zs,h1,h2,h3,h4,h5,h6⟩=>⟨l,b,xs,zs,h1,h2,h3,h4,h5,fun p hp=>h6 p _ (.upd hp)⟩
variable {tg elt iter:Expr}{ifs:List Expr}{sc:Scope}{N':List Str}{ix:List (Option Nat)}{g:TG}{tc:TT}{wi:TI}
def ItQ (a:Addr):It:=⟨fun i H=>∃ xs x,Rd H a (.lst xs)∧xs[i]? = some x,fun i H x H'=>H'=H∧∀ xs,Rd H a (.lst xs)→xs[i]? = some x,fun i H=>∃ xs,Rd H a (.lst xs)∧xs.length≤i⟩
def ItE (a:Addr):It:=⟨fun i H=>∃ xs x,Rd H a (.lst xs)∧xs[i]? = some x,fun i H x H'=>∃ p v,x=.ref p∧(∀ xs,Rd H a (.lst xs)→xs[i]? = some v)∧New H p (.tup [.int i,v]) H',fun i H=>∃ xs,Rd H a (.lst xs)∧xs.length≤i⟩
theorem mC {P:Program}{w:World}{K:PySem.W.Frag}(a it:Addr):nc P w K tg (ItQ a) [it] it (fun i h=>h.IsListIter it a i) :=
 let T:=ox (P:=P) (w:=w) (K:=K) (tg:=tg) a it
 ⟨T.mem,T.obj,T.keep,fun X hP hw hK hc i pins s σ H E I hf st hg=>by
  obtain⟨xs,x,h1,h2⟩:=hg
  refine thn (T.item X hP hw hK hc i pins s σ H E I hf st ⟨xs,x,.inl h1,h2⟩) fun r s1 ⟨u,hr,h4⟩=>⟨u,hr,thn h4 fun _ s2 ⟨y,H',I',ry,⟨e,yy⟩,st',fr⟩=>⟨y,H',I',ry,⟨e,fun zs hz=>yy zs (.inl hz)⟩,st',fr⟩⟩,
  fun X hP hw hK hc i pins s σ H E I hf st hg=>by
   obtain⟨xs,h1,h2⟩:=hg
   exact T.done X hP hw hK hc i pins s σ H E I hf st ⟨xs,.inl h1,h2⟩,T.self⟩
def tN (tl:TE):TI:=fun σ H R=>tl σ H fun x H1=>∃ a xs,x=.ref a∧Rd H1 a (.lst xs)∧R (ItQ a) H1
theorem aE {l:Expr}{tl:TE}(hl:PE X l tl):PI X tg l (tN tl):=by
 intro pins s σ H R I h
 refine thn (hl pins s σ H _ I h) fun v s1 ⟨x,H1,I1,r1,q1⟩=>?_
 obtain⟨a,xs,e,hq,q⟩:=q1
 subst e
 cases r1
 obtain⟨its,rv,p,hz⟩:=I1.list (.inl hq)
 refine wpAny_pyIter_list p.isList ?_
 refine⟨s1.heap.objs.size,[s1.heap.objs.size],_,_,H1,rfl,I1.kept (t':=s1.toks) fun b o e=>Heap.get?_push_of_some _ e,mC a _,⟨_,Heap.get?_push_size _ rfl,rfl,rfl⟩,fun b hb=>?_,q⟩
 have e:b=s1.heap.objs.size:=by simpa using hb
 subst e
 exact I1.fpOk (Nat.le_refl _) (I1.hok.fresh (Nat.le_refl _))
def ux (n:Nat)(t:TGs):TG:=fun v σ H Q=>∃ a xs,v=.ref a∧Rd H a (.tup xs)∧xs.length=n∧t xs σ H Q
theorem PG.imp {g g':TG}(h:PG X tg g)(i:∀ v σ H Q,g' v σ H Q→g v σ H Q):PG X tg g':=fun pins s σ H v u Q I r q=>h pins s σ H v u Q I r (i v σ H Q q)
theorem da {ts:List Expr}{k:Nat}{t:TGs}{n:Nat}(hc:X.calm=true)(h:PGs X ts t)
 (hn:(assignEach ts X.env).length=n:=by rfl) (hst:(assignEach ts X.env).findIdx? (·.1)=none:=by rfl):PG X (.Tuple ts k pos) (ux n t) :=
 (tf hc h hn hst).imp fun v σ H Q ⟨a,xs,h1,h2,h3,h4⟩=>⟨a,xs,h1,.inl h2,h3,h4⟩
end
theorem aX {a:Addr}{xs:List V}{g:TG}{tb:TS}{D:i9}{σ:St}{H:Hp}(Pv:Nat→St→Hp→Prop)(h0:Pv 0 σ H)(hl:∀ i σ H,i≤xs.length→Pv i σ H→Rd H a (.lst xs))
 (hs:∀ i x σ H,xs[i]? = some x→Pv i σ H→g x σ H fun σ2 H2=>tb { D with nx:=Pv (i+1),ct:=Pv (i+1),bk:=D.nx } σ2 H2) (hd:∀ σ H,Pv xs.length σ H→D.nx σ H) :
 ∃ W:Nat→Nat→St→Hp→Prop,(∃ m,W 0 m σ H)∧∀ i m σ H,W i m σ H →
   ((ItQ a).stop i H∧D.nx σ H)∨((ItQ a).go i H∧∃ N:St→Hp→Prop,(∀ σ' H',N σ' H'→∃ m',m'<m∧W (i+1) m' σ' H')∧∀ x H',(ItQ a).yld i H x H'→g x σ H' fun σ2 H2=>tb { D with nx:=N,ct:=N,bk:=D.nx } σ2 H2):=by
 refine⟨fun i m σ H=>m=xs.length-i∧i≤xs.length∧Pv i σ H,⟨xs.length,by simp,Nat.zero_le _,h0⟩,?_⟩
 rintro i m σ H ⟨rfl,hi,p⟩
 have q:=hl i σ H hi p
 by_cases hlt:i<xs.length
 ·refine .inr ⟨⟨xs,xs[i],q,by simp[hlt]⟩,Pv (i+1),fun σ' H' p'=>⟨xs.length-(i+1),by lia,rfl,hlt,p'⟩,fun x H' y=>?_⟩
  obtain⟨e,y⟩:=y
  subst e
  exact hs i x σ _ (y xs q) p
 ·have e:i=xs.length:=by lia
  subst e
  exact .inl ⟨⟨xs,q,Nat.le_refl _⟩,hd σ H p⟩
theorem ph {a:Addr}{xs:List V}{g:TG}{tb:TS}{D:i9}{σ:St}{H:Hp}(Pv:Nat→St→Hp→Prop)(h0:Pv 0 σ H)(hl:∀ i σ H,i≤xs.length→Pv i σ H→Rd H a (.lst xs))
 (hs:∀ i x σ H p H',xs[i]? = some x→Pv i σ H→New H p (.tup [.int i,x]) H'→g (.ref p) σ H' fun σ2 H2=>tb { D with nx:=Pv (i+1),ct:=Pv (i+1),bk:=D.nx } σ2 H2) (hd:∀ σ H,Pv xs.length σ H→D.nx σ H) :
 ∃ W:Nat→Nat→St→Hp→Prop,(∃ m,W 0 m σ H)∧∀ i m σ H,W i m σ H →
   ((ItE a).stop i H∧D.nx σ H)∨((ItE a).go i H∧∃ N:St→Hp→Prop,(∀ σ' H',N σ' H'→∃ m',m'<m∧W (i+1) m' σ' H')∧∀ x H',(ItE a).yld i H x H'→g x σ H' fun σ2 H2=>tb { D with nx:=N,ct:=N,bk:=D.nx } σ2 H2):=by
 refine⟨fun i m σ H=>m=xs.length-i∧i≤xs.length∧Pv i σ H,⟨xs.length,by simp,Nat.zero_le _,h0⟩,?_⟩
 rintro i m σ H ⟨rfl,hi,p⟩
 have q:=hl i σ H hi p
 by_cases hlt:i<xs.length
 ·refine .inr ⟨⟨xs,xs[i],q,by simp[hlt]⟩,Pv (i+1),fun σ' H' p'=>⟨xs.length-(i+1),by lia,rfl,hlt,p'⟩,fun x H' y=>?_⟩
  obtain⟨pa,v,e,y,nw⟩:=y
  subst e
  exact hs i v σ H pa H' (y xs q) p nw
 ·have e:i=xs.length:=by lia
  subst e
  exact .inl ⟨⟨xs,q,Nat.le_refl _⟩,hd σ H p⟩
theorem kj {a:Addr}{xs:List V}{g:TG}{tc:TT}{te:TE}{σ0:St}{H:Hp}{Q:VK}(Pv:Nat→St→Hp→List V→Prop)(h0:Pv 0 σ0 H [])(hl:∀ i σ H ys,i≤xs.length→Pv i σ H ys→Rd H a (.lst xs)∧ys.length≤i)(hz:xs.length≤sizeLine)
 (hs:∀ i x σ H ys (N:St→Hp→List V→Prop),(∀ σ H ys,Pv (i+1) σ H ys→N σ H ys)→xs[i]? = some x→Pv i σ H ys→g x σ H fun σ2 H2=>tc σ2 H2 fun b H3=>if b=true then te σ2 H3 fun v H4=>N σ2 H4 (ys++[v]) else N σ2 H3 ys)
 (hd:∀ σ H ys,Pv xs.length σ H ys→∀ D H2,New H D (.lst ys) H2→Q (.ref D) H2) :
 ∃ W:Nat→Nat→St→Hp→List V→Prop,(∃ m,W 0 m σ0 H [])∧∀ i m σ H ys,W i m σ H ys →
   ((ItQ a).stop i H∧ys.length≤sizeLine∧∀ D H2,New H D (.lst ys) H2→Q (.ref D) H2) ∨
   ((ItQ a).go i H∧ys.length<sizeLine∧∀ x H',(ItQ a).yld i H x H'→g x σ H' fun σ2 H2=>tc σ2 H2 fun b H3=>if b=true then te σ2 H3 fun v H4=>∃ m',m'<m∧W (i+1) m' σ2 H4 (ys++[v]) else ∃ m',m'<m∧W (i+1) m' σ2 H3 ys):=by
 refine⟨fun i m σ H ys=>m=xs.length-i∧i≤xs.length∧Pv i σ H ys,⟨xs.length,by simp,Nat.zero_le _,h0⟩,?_⟩
 rintro i m σ H ys ⟨rfl,hi,p⟩
 obtain⟨q,hy⟩:=hl i σ H ys hi p
 by_cases hlt:i<xs.length
 ·refine .inr ⟨⟨xs,xs[i],q,by simp[hlt]⟩,by lia,fun x H' y=>?_⟩
  obtain⟨e,y⟩:=y
  subst e
  exact hs i x σ _ ys (fun σ H ys=>∃ m',m'<xs.length-i∧(m'=xs.length-(i+1)∧i+1≤xs.length∧Pv (i+1) σ H ys)) (fun σ H ys q4=>⟨xs.length-(i+1),by lia,rfl,hlt,q4⟩) (y xs q) p
 ·have e:i=xs.length:=by lia
  subst e
  exact .inl ⟨⟨xs,q,Nat.le_refl _⟩,by lia,hd σ H ys p⟩
theorem iw {lo:Int}{n:Nat}{g:TG}{tc:TT}{te:TE}{σ0:St}{H:Hp}{Q:VK}(Pv:Nat→St→Hp→List V→Prop)(h0:Pv 0 σ0 H [])(hl:∀ i σ H ys,i≤n→Pv i σ H ys→ys.length≤i)(hz:n≤sizeLine)
 (hs:∀ i σ H ys (N:St→Hp→List V→Prop),(∀ σ H ys,Pv (i+1) σ H ys→N σ H ys)→i<n→Pv i σ H ys→g (.int (lo+i)) σ H fun σ2 H2=>tc σ2 H2 fun b H3=>if b=true then te σ2 H3 fun v H4=>N σ2 H4 (ys++[v]) else N σ2 H3 ys)
 (hd:∀ σ H ys,Pv n σ H ys→∀ D H2,New H D (.lst ys) H2→Q (.ref D) H2) :
 ∃ W:Nat→Nat→St→Hp→List V→Prop,(∃ m,W 0 m σ0 H [])∧∀ i m σ H ys,W i m σ H ys →
   ((Itr lo n).stop i H∧ys.length≤sizeLine∧∀ D H2,New H D (.lst ys) H2→Q (.ref D) H2) ∨
   ((Itr lo n).go i H∧ys.length<sizeLine∧∀ x H',(Itr lo n).yld i H x H'→g x σ H' fun σ2 H2=>tc σ2 H2 fun b H3=>if b=true then te σ2 H3 fun v H4=>∃ m',m'<m∧W (i+1) m' σ2 H4 (ys++[v]) else ∃ m',m'<m∧W (i+1) m' σ2 H3 ys):=by
 refine⟨fun i m σ H ys=>m=n-i∧i≤n∧Pv i σ H ys,⟨n,by simp,Nat.zero_le _,h0⟩,?_⟩
 rintro i m σ H ys ⟨rfl,hi,p⟩
 have hy:=hl i σ H ys hi p
 by_cases hlt:i<n
 ·refine .inr ⟨hlt,by lia,fun x H' y=>?_⟩
  obtain⟨e,y⟩:=y
  subst e y
  exact hs i σ _ ys (fun σ H ys=>∃ m',m'<n-i∧(m'=n-(i+1)∧i+1≤n∧Pv (i+1) σ H ys)) (fun σ H ys q4=>⟨n-(i+1),by lia,rfl,hlt,q4⟩) hlt p
 ·have e:i=n:=by lia
  subst e
  exact .inl ⟨Nat.le_refl _,by lia,hd σ H ys p⟩
end L2
namespace L2
open PySem PySem.Spec PyProof.Rows
theorem ba:bootBuiltins "len" = some (.builtin "len"):=by decide +kernel
theorem gV:bootBuiltins "list" = some (.type "list"):=by decide +kernel
theorem qS:bootBuiltins "int" = some (.type "int"):=by decide +kernel
theorem oe:bootBuiltins "bool" = some (.type "bool"):=by decide +kernel
theorem qR:bootBuiltins "tuple" = some (.type "tuple"):=by decide +kernel
theorem bG:bootBuiltins "sorted" = some (.builtin "sorted"):=by decide +kernel
theorem tU:bootBuiltins "max" = some (.builtin "max"):=by decide +kernel
theorem i7:bootBuiltins "isinstance" = some (.builtin "isinstance"):=by decide +kernel
theorem kC:bootBuiltins "enumerate" = some (.type "enumerate"):=by decide +kernel
theorem tT:bootBuiltins "set" = some (.type "set"):=by decide +kernel
theorem oy {P:Program}{w:World}{K:PySem.W.Frag}{ts:List Expr}{k:Nat}{tp:Pos}(a it e:Addr)(hne:e≠it) :
 nc P w K (.Tuple ts k tp) (ItE a) [e,it] e (fun i h=>(∃ old,IsEnum h e it ((i:Nat):Int) old)∧h.IsListIter it a i) where
 mem:=by simp
 obj:=fun i h st b hb=>by
  obtain⟨⟨old,h1⟩,o,h2,c,d⟩:=st
  rcases mem_cons.mp hb with rfl | hb
  ·exact⟨_,h1,fun v z=>by cases z⟩
  ·have e':b=it:=by simpa using hb
   subst e'
   exact⟨o,h2,fun v z=>by rw[d] at z;cases z⟩
 keep:=fun i h h' st kk=>by
  obtain⟨⟨old,h1⟩,h2⟩:=st
  exact⟨⟨old,kk e (by simp) _ h1⟩,h2.at fun o q=>kk it (by simp) o q⟩
 item:=by
  intro X hP hw hK hc i pins s σ H E I hf st hg
  subst hP hw hK
  obtain⟨xs,x,hq,hx⟩:=hg
  obtain⟨its,rv,p,hz⟩:=I.list (.inl hq)
  obtain⟨u,hu,ru⟩:=rv.get hx
  obtain⟨⟨old,h1⟩,h2⟩:=st
  obtain⟨f0,f1,f2,f3,f4,f5⟩:=hf e (by simp)
  obtain⟨g0,g1,g2,g3,g4,g5⟩:=hf it (by simp)
  refine wpAny_pyNext_enum_item h1 h2 p.isList (x:=u) (by simpa using hu) hne fun h' o1 l1 t1 z1 k1=>?_
  refine⟨_,rfl,wpAny_letOwnedTupleGo_enum o1 fun h'' e2 sb=>?_⟩
  have hlt:∀ b o,s.heap.get? b=some o→b≠s.heap.objs.size:=fun b o q=>Nat.ne_of_lt (Heap.lt_size q)
  have hes:e<s.heap.objs.size:=Heap.lt_size h1
  have t2:h''.get? s.heap.objs.size=some { cls:=.type "tuple",data:=.seq #[.int i s.toks,u] }:=(sb.2 _ (Nat.ne_of_gt hes)).trans t1
  have k2:∀ b o,b≠e→b≠it→s.heap.get? b=some o→h''.get? b=some o:=fun b o q1 q2 q=>(sb.2 b q1).trans (k1 b o q1 q2 q)
  have I1:Inv X pins σ H { s with heap:=h'',toks:=s.toks+1 }:=by
   refine I.step (g':=s.gens) (d':=s.drawn) (ch:=[e,it]) (fun b hb=>?_) (fun b o _ _ hc' q _=>k2 b o (fun z=>hc' (by simp[z])) (fun z=>hc' (by simp[z])) q)
    (fun b o _ _ hc' q _=>⟨o.slots,k2 b o (fun z=>hc' (by simp[z])) (fun z=>hc' (by simp[z])) q⟩) (fun _ _ _ _ n=>n) (fun b o hc' q=>⟨o,k2 b o (fun z=>hc' (by simp[z])) (fun z=>hc' (by simp[z])) q⟩)
    (fun _ _ q=>q) (fun _ _ _ q=>q) (fun b ps q=>⟨#[],by rw[q];simp⟩) (fun m hm=>?_) (fun b u' q=>?_) I.bare
   ·rcases mem_cons.mp hb with rfl | hb
    ·exact⟨f3,f1,f4,f5⟩
    ·have e':b=it:=by simpa using hb
     subst e'
     exact⟨g3,g1,g4,g5⟩
   ·obtain⟨o,es,ep,ho,r⟩:=hm
    exact⟨o,es,ep,k2 _ o (Ne.symm f1) (Ne.symm g1) ho,r⟩
   ·have nb:∀ c y,H c=some y→c≠e∧c≠it:=fun c y z=>⟨(fun q'=>by rw[q',f0] at z;cases z),(fun q'=>by rw[q',g0] at z;cases z)⟩
    refine (I.hok b u' q).stay (fun c v hc' q'=>k2 c v ?_ ?_ q') (fun _ q'=>q') fun _ _ q'=>q'
    ·rcases hc' with z | z
     ·rw[z];exact (nb b u' q).1
     ·exact (nb c _ z).1
    ·rcases hc' with z | z
     ·rw[z];exact (nb b u' q).2
     ·exact (nb c _ z).2
  have hn:H s.heap.objs.size=none:=I.hok.fresh (Nat.le_refl _)
  have I2:Inv X pins σ (upd H s.heap.objs.size (.tup [.int i,x])) { s with heap:=h'',toks:=s.toks+1 } :=
   I1.track hn (.inr I.sz) (Nat.ne_of_gt I.lt) (fun y c q z=>by obtain⟨v,z'⟩:=I.cell y c q;exact absurd (z▸z'.lt) (Nat.lt_irrefl _)) (fun q hq' z=>absurd (z▸Heap.lt_size (I.pin q hq').1) (Nat.lt_irrefl _))
    ⟨by show 2≤sizeLine;decide,[.int i s.toks,u],.cons ⟨_,rfl⟩ (.cons ru .nil),⟨_,t2,rfl,_,rfl⟩⟩
  refine⟨.ref s.heap.objs.size,_,I2,rfl,⟨_,x,rfl,fun ys hy=>?_,.upd hn⟩,⟨⟨u,?_⟩,?_⟩,fun b hb=>?_⟩
  ·rw[I.list_inj (.inl hy) (.inl hq)];exact hx
  ·have:=e2
   rwa [show ((i+1:Nat):Int)=(i:Int)+1 by lia]
  ·exact l1.at fun o q=>(sb.2 it (Ne.symm hne)).trans q
  ·have hb':b<s.heap.objs.size:=by
    rcases mem_cons.mp hb with rfl | hb
    ·exact hes
    ·have e':b=it:=by simpa using hb
     subst e'
     obtain⟨o,q,_⟩:=h2
     exact Heap.lt_size q
   rw[aP (Nat.ne_of_lt hb')]
   exact (hf b hb).1
 done:=by
  intro X hP hw hK hc i pins s σ H E I hf st hg
  subst hP hw hK
  obtain⟨xs,hq,hx⟩:=hg
  obtain⟨its,rv,p,hz⟩:=I.list (.inl hq)
  obtain⟨⟨old,h1⟩,h2⟩:=st
  obtain⟨f0,f1,f2,f3,f4,f5⟩:=hf it (by simp)
  have hl:=rv.length
  exact wpAny_pyNext_enum_end (I.ok.hd hc) h1 h2 p.isList (by simp;lia) fun h' eb=>⟨rfl,I.turned (t':=s.toks) (fun b o hb q=>eb b o hb q) f0 f1 f3 f4 f5⟩
 self:=fun _ _ _ _ _ st h=>by
  obtain⟨⟨old,h1⟩,_⟩:=st
  exact wpAny_pyIter_enum h1 h
section
variable {X:Cx}{tg:Expr}{ts:List Expr}{k:Nat}{tp:Pos}
def tO (tl:TE):TI:=fun σ H R=>tl σ H fun x H1=>∃ a xs,x=.ref a∧Rd H1 a (.lst xs)∧R (ItE a) H1
theorem qf {l:Expr}{tl:TE}{p pos:Pos}(hg:Gl X "enumerate")(hm:X.mg "enumerate" = none)(hl:PE X l tl)(hs:starEach [l] X.env=[(false,eval l X.env)]:=by rfl) :
 PI X (.Tuple ts k tp) (.Call (.Name "enumerate" p) [l] [] pos) (tO tl):=by
 intro pins s σ H R I h
 have ha:PA X [l] (kR tl mD):=aa hl ae hs
 refine Call_ (dE I hg hm kC (PyProof.Rows.callWith_type1 (thn (ha pos pins s σ H (fun vs H1=>match vs with | [x]=>∃ a xs,x=.ref a∧Rd H1 a (.lst xs)∧R (ItE a) H1 | _=>False) I h) fun us s1 ⟨vs,H1,I1,r1,q1⟩=>?_) hs rfl))
 obtain⟨a,xs,e,hq,q⟩:∃ a xs,vs=[.ref a]∧Rd H1 a (.lst xs)∧R (ItE a) H1:=by
  match vs,q1 with
  | [x],q1=>obtain⟨a,xs,e,hq,q⟩:=q1;exact⟨a,xs,by rw[e],hq,q⟩
 subst e
 cases r1 with
 | cons r rr =>
   cases rr
   cases (show _=Value.ref a from r)
   obtain⟨its,rv,pl,hz⟩:=I1.list (.inl hq)
   refine call_enumerate_list pl.isList fun h2 he hit hsz hk=>?_
   have I2:Inv X pins σ H1 { s1 with heap:=h2,toks:=s1.toks }:=I1.kept hk
   refine wpAny_pyIter_enum he ?_
   refine⟨s1.heap.objs.size+1,[s1.heap.objs.size+1,s1.heap.objs.size],_,_,H1,rfl,I2,oy a s1.heap.objs.size (s1.heap.objs.size+1) (Nat.succ_ne_self _),⟨⟨.none,he⟩,hit⟩,fun b hb=>?_,q⟩
   have hb':s1.heap.objs.size≤b:=by
    rcases mem_cons.mp hb with e' | hb
    ·rw[e'];exact Nat.le_succ _
    ·have e':b=s1.heap.objs.size:=by simpa using hb
     rw[e'];exact Nat.le_refl _
   exact I1.fpOk hb' (I1.hok.fresh hb')
end
section
variable {X:Cx}{tg:Expr}{ts:List Expr}{k:Nat}{tp:Pos}
structure aF (P:Program)(w:World)(K:PySem.W.Frag)(mg:Str→Option Value)(base:Heap)(k:Nat)(x:Str)(ps:List Str)(sp:Sp):Prop where
 ex:∃ f fd,bh P w K mg base CX0 k f fd ps sp∧mg x=some (.ref f)∧PySem.W.keepIn K (.ref f)=true∧jN K fd ps []
theorem aj {x:Str}{e:Expr}{es:List Expr}{t:TA}{sp:Sp}{ps:List Str}{kk:Nat}{p pos:Pos}(c:aF X.prog X.w X.K X.mg X.base kk x ps sp)(hr:dh kk X.A)(hg:Gl X x)(ha:PA X (e :: es) t)
 (hdb:(x == ("__debug__" : Str))=false:=by decide) (he:starEach (e :: es) X.env=(false,eval e X.env) :: starEach es X.env:=by rfl) (hpl:(backTo pos (starEach es X.env)).any (·.1)=false:=by rfl) :
 PE X (.Call (.Name x p) (e :: es) [] pos) (sq sp [] E0 t):=by
 obtain⟨f,fd,F,hm,hk,hb⟩:=c.ex
 exact rE F hr hg hm hk hb .nil uq ha hdb he hpl
end
section
variable {X:Cx}{tg:Expr}{ts:List Expr}{k:Nat}{tp:Pos}
def np (to te:TE):TE:=fun σ H Q=>to σ H fun x H1=>∃ l xs0,x=.ref l∧H1 l=some (.lst xs0)∧te σ H1 fun y H2=>∃ xs,H2 l=some (.lst xs)∧xs.length<sizeLine∧∀ H3,Chg H2 l (.lst (xs++[y])) H3→Q .non H3
theorem rF {o e:Expr}{to te:TE}{apos cpos:Pos}(ho:PE X o to)(he:PE X e te)
 (hbase:attributeBase o "append" X.env (eval o X.env)=eval o X.env:=by rfl)
 (hfew:((backTo cpos (starEach [e] X.env)).all (fun x=>!x.1) && (backToKw cpos (keywordEach [] X.env)).all (fun x=>x.1.isSome)
  && decide ([e].length+([]:List Keyword).length+(if ([]:List Keyword).isEmpty then 0 else 1)<30))=true:=by rfl)
 (hline:(apos.endLine == cpos.line)=true:=by rfl) (hs:starEach [e] X.env=[(false,eval e X.env)]:=by rfl) :
 PE X (.Call (.Attribute o "append" apos) [e] [] cpos) (np to te):=by
 intro pins s σ H Q I h
 refine wpAny_Call_method_late hbase hfew hline rfl (thn (ho pins s σ H _ I h) fun v s1 ⟨x,H1,I1,r1,l,xs0,ex,hl,q1⟩=>?_)
 subst ex
 obtain⟨h1,h2⟩:=jQ (T:="list") I1 r1 (.inl ⟨rfl,xs0,SqL.of hl⟩)
 refine⟨"list","list.append",PySem.F.plainAttrs_list,PySem.F.slot_list_append,PySem.F.type_list_append,h1,h2,?_⟩
 have hA:=(aa he ae hs:PA X [e] (kR te mD)) cpos pins s1 σ H1 (fun vs H2=>match vs with | [y]=>∃ xs,H2 l=some (.lst xs)∧xs.length<sizeLine∧∀ H3,Chg H2 l (.lst (xs++[y])) H3→Q .non H3 | _=>False) I1 q1
 rw[hs] at hA ⊢
 refine Calls.callWith_builtin rfl (Calls.evalArgs_plain ?_)
 refine thn hA fun us s2 ⟨vs,H2,I2,r2,q2⟩=>?_
 match vs,q2,r2 with
 | [y],⟨xs,e1,e2,e3⟩,r2=>exact oU pins s2 σ H2 (.ref l) [y] v us Q I2 r1 r2 ⟨l,xs,y,rfl,rfl,e1,e2,e3 _ .upd⟩
theorem a7 {o e:Expr}{to te:TE}{apos cpos pos:Pos}(ho:PE X o to)(he:PE X e te)
 (hbase:attributeBase o "append" X.env (eval o X.env)=eval o X.env:=by rfl)
 (hfew:((backTo cpos (starEach [e] X.env)).all (fun x=>!x.1) && (backToKw cpos (keywordEach [] X.env)).all (fun x=>x.1.isSome)
  && decide ([e].length+([]:List Keyword).length+(if ([]:List Keyword).isEmpty then 0 else 1)<30))=true:=by rfl)
 (hline:(apos.endLine == cpos.line)=true:=by rfl) (hs:starEach [e] X.env=[(false,eval e X.env)]:=by rfl) (hw:swapsWith (.Call (.Attribute o "append" apos) [e] [] cpos) none pos.line X.env=pure false:=by rfl) :
 PS X (.Expr (.Call (.Attribute o "append" apos) [e] [] cpos) pos) (nn (np to te)):=jY (rF ho he hbase hfew hline hs) hw
def ua (to:TE):TE:=fun σ H Q=>to σ H fun x H1=>∃ l xs y,x=.ref l∧H1 l=some (.lst xs)∧xs[xs.length-1]? = some y∧∀ H2,Chg H1 l (.lst xs.dropLast) H2→Q y H2
theorem j4 {o:Expr}{to:TE}{apos cpos:Pos}(ho:PE X o to)(hbase:attributeBase o "pop" X.env (eval o X.env)=eval o X.env:=by rfl)(hline:(apos.endLine == cpos.line)=true:=by rfl) :
 PE X (.Call (.Attribute o "pop" apos) [] [] cpos) (ua to):=by
 intro pins s σ H Q I h
 refine wpAny_Call_method0_late hbase hline (thn (ho pins s σ H _ I h) fun v s1 ⟨x,H1,I1,r1,l,xs,y,ex,hl,hy,q1⟩=>?_)
 subst ex
 obtain⟨h1,h2⟩:=jQ (T:="list") I1 r1 (.inl ⟨rfl,xs,SqL.of hl⟩)
 exact⟨"list","list.pop",PySem.F.plainAttrs_list,PySem.F.slot_list_pop,PySem.F.type_list_pop,h1,h2,Calls.callWith_builtin rfl (PySem.evalArgs_none (tz pins s1 σ H1 (.ref l) [] v [] Q I1 r1 .nil ⟨l,xs,y,rfl,rfl,hl,hy,q1 _ .upd⟩))⟩
end
section
variable {X:Cx}{tg:Expr}{ts:List Expr}{k:Nat}{tp:Pos}
def sL:TE:=fun _ H Q=>∀ p H2,New H p (.dK []) H2→Q (.ref p) H2
theorem dm {pos:Pos}:PE X (.Dict [] [] pos) sL:=qj.imp fun σ H Q h p hp=>h p _ (.upd hp)
def sS (td ty tv:TE):TS:=fun D σ H=>tv σ H fun v H1=>td σ H1 fun x H2=>ty σ H2 fun y H3=>∃ (a:Addr) (kvs:List (Key×V)) (k:Key),x=.ref a∧H3 a=some (.dK kvs)∧y=kV k∧kvs.length<sizeLine∧∀ H4,Chg H3 a (.dK (cz kvs k v)) H4→D.nx σ H4
theorem bK {o i value:Expr}{td ty tv:TE}{pos pos':Pos}(hu:X.A.units+1<cLine)(ho:PE X o td)(hi:PE X i ty)(hv:PE X value tv)(hs:swapsWith value (some (.Subscript o i pos')) pos.line X.env=pure false) :
 PS X (.Assign [.Subscript o i pos'] value pos) (sS td ty tv):=by
 intro pins s σ H D I h
 refine wpAny_Assign_Subscript (thn (hv pins s σ H _ I h) fun r s1 ⟨v,H1,I1,rv,q1⟩=>thn (ho pins s1 σ H1 _ I1 q1) fun u s2 ⟨x,H2,I2,rx,q2⟩=>thn (hi pins s2 σ H2 _ I2 q2) fun iv s3 ⟨y,H3,I3,ry,a,kvs,k,ex,hd,ey,hl,q3⟩=>?_) hs
 subst ex
 subst ey
 obtain rfl:u=Value.ref a:=rx
 exact pB hu I3 (sn.k hd hl) ry rv fun s4 I4=>⟨σ,_,I4,q3 _ .upd⟩
def sK (tk tv:TE):TE:=fun σ H Q=>∀ p H1,New H p (.dK []) H1→tk σ H1 fun x H2=>tv σ H2 fun v H3=>∃ k:Key,x=kV k∧H3 p=some (.dK [])∧∀ H4,Chg H3 p (.dK [(k,v)]) H4→Q (.ref p) H4
theorem lq {ke ve:Expr}{tk tv:TE}{pos:Pos}(hk:PE X ke tk)(hv:PE X ve tv):PE X (.Dict [some ke] [ve] pos) (sK tk tv):=by
 intro pins s σ H Q I q
 have hn:=I.hok.fresh (Nat.le_refl s.heap.objs.size)
 have I1:=I.laid (a:=s.heap.objs.size) (o:=.dK []) (h':=s.heap.push { cls:=.type "dict",data:=.dict #[] }) (t':=s.toks) (fun _ _ q=>Heap.get?_push_of_some _ q) (Nat.le_refl _) (l7 s.heap I.big)
 have hp:PPs X pos [some ke] [ve] [(tk,tv)]:=qe hk hv rB
 refine wpAny_Dict_walk (knd:=aO X.prog X.w) rfl rfl (by simp) (by simp) (thn (hp pins _ σ _ (fun ps H2=>match ps with | [(x,v)]=>∃ k:Key,x=kV k∧H2 s.heap.objs.size=some (.dK [])∧∀ H4,Chg H2 s.heap.objs.size (.dK [(k,v)]) H4→Q (.ref s.heap.objs.size) H4 | _=>False) I1 (q _ _ (.upd hn))) fun ws s2 ⟨ps,H2,I2,rel,qq⟩=>?_)
 match ps,qq,rel with
 | [(x,v)],⟨k,ex,e,q2⟩,rel =>
   subst ex
   obtain⟨rs,c,rk⟩:=iN (P:=X.prog) (w:=X.w) (kvs:=[(k,v)]) rel
   obtain⟨z,hd,vs0,r0,dd⟩:=qM I2.hok e
   cases r0
   refine⟨rs,c,dd,fun h' dd' hs=>⟨.ref s.heap.objs.size,_,?_,rfl,q2 _ .upd⟩⟩
   have he:∃ q,h'.get? s.heap.objs.size=some q:=let ⟨q,_,_,hq,_⟩:=dd';⟨q,hq⟩
   exact gU I2 (by rw[e];exact True.intro) hs he (ku (by rw[sizeLine_eq];simp) hd (rk.merge .nil) dd')
end
section
variable {X:Cx}{tg:Expr}{ts:List Expr}{k:Nat}{tp:Pos}
def uL (K:PySem.W.Frag)(c:Value)(te:TE):TE:=fun σ H Q=>te σ H fun x H1=>∃ t b,gn K H1 x t∧PySem.W.kitOne K t c=some b∧Q (.bl b) H1
theorem f8 {e:Expr}{te:TE}{x:Str}{T:String}{p p2 pos:Pos}(hm:X.mg "isinstance" = none)(hm2:X.mg x=none)(hv2:bootBuiltins x=some (.type T))(hg:Gl X "isinstance")(hg2:Gl X x)(he:PE X e te)
 (hn2:x≠"__name__" :=by decide) (hd2:(x == ("__debug__" : Str))=false:=by decide)
 (hs:starEach [e,.Name x p2] X.env=(false,eval e X.env) :: starEach [.Name x p2] X.env:=by rfl) (hs2:starEach [.Name x p2] X.env=[(false,eval (.Name x p2) X.env)]:=by rfl) (hpl:(backTo pos (starEach [.Name x p2] X.env)).any (·.1)=false:=by rfl) :
 PE X (.Call (.Name "isinstance" p) [e,.Name x p2] [] pos) (uL X.K (.type T) te):=by
 intro pins s σ H Q I h
 refine wpAny_Call_Name_kw (dE I hg hm i7 ?_)
 refine PyProof.Rows.callWith_builtin1 ?_ hs hpl
 rw[hs]
 show wpAny _ _ (spliced ((false,eval e X.env) :: backTo pos (starEach [.Name x p2] X.env))) _ _ s
 refine Calls.spliced_cons (thn (he pins s σ H _ I h) fun u s1 ⟨y,H1,I1,r1,t,b,ty,k,q⟩=>?_)
 rw[hs2]
 show wpAny _ _ (spliced ((false,eval (.Name x p2) X.env) :: backTo pos [])) _ _ s1
 refine Calls.spliced_cons (dE I1 hg2 hm2 hv2 ?_ hn2 hd2)
 refine Calls.spliced_nil ?_
 exact o7 I1 r1 ty k fun tk=>⟨.bl b,H1,I1.tok tk,rfl,q⟩
end
def jB:V→Bool
 | .non=>true
 | .bl _=>true
 | .int _=>true
 | .str _=>true
 | _=>false
def EqT (H:Hp):Nat→V→V→Prop
 | 0,x,y=>x=y∧jB x=true
 | n+1,x,y=>(x=y∧jB x=true)∨∃ a b xs ys,x=.ref a∧y=.ref b∧xs.length=ys.length∧((Rd H a (.tup xs)∧Rd H b (.tup ys))∨(Rd H a (.lst xs)∧Rd H b (.lst ys)))∧∀ (i:Nat) (x y:V),xs[i]? = some x→ys[i]? = some y→EqT H n x y
theorem EqT.flat {H:Hp}{n:Nat}{x:V}(h:jB x=true):EqT H n x x:=by
 cases n with
 | zero=>exact⟨rfl,h⟩
 | succ n=>exact Or.inl ⟨rfl,h⟩
theorem cE (A:Around):A.in1.units=A.units+1:=rfl
section
variable {X:Cx}{pins:List (Addr×Obj)}{σ:St}{H:Hp}{s:Shared}
theorem l5 {A:Around}{x:V}{u v:Value}(h:jB x=true)(ru:az x u)(rv:az x v):SeqAt.EqAt A s u v true:=by
 cases x with
 | non=>cases (show u=_ from ru);cases (show v=_ from rv);exact SeqAt.EqAt.same _
 | bl b=>cases (show u=_ from ru);cases (show v=_ from rv);exact SeqAt.EqAt.same _
 | int i =>
   obtain⟨t,rfl⟩:=(show ∃ t,u=Value.int i t from ru)
   obtain⟨t',rfl⟩:=(show ∃ t,v=Value.int i t from rv)
   have q:=SeqAt.EqAt.int_int (A:=A) (s:=s) i t i t'
   rwa [show (i == i)=true by simp] at q
 | str x =>
   obtain⟨t,rfl⟩:=(show ∃ t,u=Value.str x t from ru)
   obtain⟨t',rfl⟩:=(show ∃ t,v=Value.str x t from rv)
   have q:=SeqAt.EqAt.str_str (A:=A) (s:=s) x t x t'
   rwa [show (x == x)=true by simp] at q
 | _=>cases h
theorem dt (n:Nat):(List.range n).all (fun _=>true)=true:=by simp
theorem bi {xs:List V}{us:List Value}(r:aB xs us){j:Nat}(h:j<us.toArray.size):∃ x,xs[j]? = some x∧az x us.toArray[j]:=by
 have hl:=r.length
 have hj:j<us.length:=by simpa using h
 have hx:j<xs.length:=by lia
 obtain⟨u,e1,e2⟩:=r.get (getElem?_eq_getElem hx)
 refine⟨xs[j],getElem?_eq_getElem hx,?_⟩
 rw[getElem?_eq_getElem hj] at e1
 cases e1
 simpa using e2
theorem gg (I:Inv X pins σ H s):∀ (n:Nat) (A:Around) {x y:V} {u v:Value},A.units+n<cLine→EqT H n x y→az x u→az y v→SeqAt.EqAt A s u v true
 | 0,A,x,y,u,v,hu,h,ru,rv=>by
   obtain⟨rfl,hf⟩:=h
   exact l5 hf ru rv
 | n+1,A,x,y,u,v,hu,h,ru,rv=>by
   rcases h with⟨rfl,hf⟩ | ⟨a,b,xs,ys,rfl,rfl,hl,hh,hi⟩
   ·exact l5 hf ru rv
   ·cases (show u=Value.ref a from ru)
    cases (show v=Value.ref b from rv)
    by_cases e:a=b
    ·subst e;exact SeqAt.EqAt.same _
    ·refine SeqAt.EqAt.of_refs e ?_
     rcases hh with⟨h1,h2⟩ | ⟨h1,h2⟩
     ·obtain⟨its,r1,p1,z1⟩:=I.tuple (.inl h1)
      obtain⟨its',r2,p2,z2⟩:=I.tuple (.inl h2)
      have q:=SeqAt.RcAt.tuples (A:=A) (s:=s) (e:=fun _=>true) (show s.heap.IsTuple a its.toArray from p1) (show s.heap.IsTuple b its'.toArray from p2) (by lia) fun j h1 h2=>by
       obtain⟨x,ex,rx⟩:=bi r1 h1
       obtain⟨y,ey,ry⟩:=bi r2 h2
       exact gg I n A.in1 (by rw[cE];lia) (hi j x y ex ey) rx ry
      have l1:=r1.length
      have l2:=r2.length
      rw[dt,show (its.toArray.size == its'.toArray.size)=true by simp;lia] at q
      exact q
     ·obtain⟨its,r1,p1,z1⟩:=I.list (.inl h1)
      obtain⟨its',r2,p2,z2⟩:=I.list (.inl h2)
      have l1:=r1.length
      have l2:=r2.length
      have q:=SeqAt.RcAt.lists (A:=A) (s:=s) (e:=fun _=>true) p1.isList p2.isList (by simp;lia) (by lia) fun j h1 h2=>by
       obtain⟨x,ex,rx⟩:=bi r1 h1
       obtain⟨y,ey,ry⟩:=bi r2 h2
       exact gg I n A.in1 (by rw[cE];lia) (hi j x y ex ey) rx ry
      rw[dt] at q
      exact q
def EqR (H:Hp)(n:Nat)(x y:V):Prop:=∃ a b xs ys,x=.ref a∧y=.ref b∧xs.length=ys.length∧((Rd H a (.tup xs)∧Rd H b (.tup ys))∨(Rd H a (.lst xs)∧Rd H b (.lst ys)))∧∀ (i:Nat) (x y:V),xs[i]? = some x→ys[i]? = some y→EqT H n x y
theorem u0 (hu:X.A.units+8<cLine):OpR X (compareOp .Eq) (fun x y H Q=>EqR H 6 x y∧Q (.bl true) H):=by
 intro pins s σ H x y u v Q I ru rv h
 obtain⟨⟨a,b,xs,ys,rfl,rfl,hl,hh,hi⟩,q⟩:=h
 cases (show u=Value.ref a from ru)
 cases (show v=Value.ref b from rv)
 rcases hh with⟨h1,h2⟩ | ⟨h1,h2⟩
 ·obtain⟨its,r1,p1,z1⟩:=I.tuple (.inl h1)
  obtain⟨its',r2,p2,z2⟩:=I.tuple (.inl h2)
  have l1:=r1.length
  have l2:=r2.length
  refine SeqAt.eq_tupleAt (e:=fun _=>true) (show s.heap.IsTuple a its.toArray from p1) (show s.heap.IsTuple b its'.toArray from p2) (by lia) (fun j h1 h2=>?_) ?_
  ·obtain⟨x,ex,rx⟩:=bi r1 h1
   obtain⟨y,ey,ry⟩:=bi r2 h2
   exact gg I 6 X.A.in1 (by rw[cE];lia) (hi j x y ex ey) rx ry
  ·rw[dt,show (its.toArray.size == its'.toArray.size)=true by simp;lia]
   exact⟨.bl true,H,I,rfl,q⟩
 ·obtain⟨its,r1,p1,z1⟩:=I.list (.inl h1)
  obtain⟨its',r2,p2,z2⟩:=I.list (.inl h2)
  have l1:=r1.length
  have l2:=r2.length
  refine SeqAt.eq_listAt (e:=fun _=>true) p1.isList p2.isList (by simp;lia) (by lia) (fun j h1 h2=>?_) ?_
  ·obtain⟨x,ex,rx⟩:=bi r1 h1
   obtain⟨y,ey,ry⟩:=bi r2 h2
   exact gg I 6 X.A.in1 (by rw[cE];lia) (hi j x y ex ey) rx ry
  ·rw[dt]
   exact⟨.bl true,H,I,rfl,q⟩
theorem qo (hu:X.A.units+8<cLine):OpR X (compareOp .NotEq) (fun x y H Q=>EqR H 6 x y∧Q (.bl false) H):=by
 intro pins s σ H x y u v Q I ru rv h
 obtain⟨⟨a,b,xs,ys,rfl,rfl,hl,hh,hi⟩,q⟩:=h
 cases (show u=Value.ref a from ru)
 cases (show v=Value.ref b from rv)
 rcases hh with⟨h1,h2⟩ | ⟨h1,h2⟩
 ·obtain⟨its,r1,p1,z1⟩:=I.tuple (.inl h1)
  obtain⟨its',r2,p2,z2⟩:=I.tuple (.inl h2)
  have l1:=r1.length
  have l2:=r2.length
  refine SeqAt.RcNeAt.tuples (e:=fun _=>true) (show s.heap.IsTuple a its.toArray from p1) (show s.heap.IsTuple b its'.toArray from p2) (by lia) (fun j h1 h2=>?_) X.prog X.w _ _ ?_
  ·obtain⟨x,ex,rx⟩:=bi r1 h1
   obtain⟨y,ey,ry⟩:=bi r2 h2
   exact gg I 6 X.A.in1 (by rw[cE];lia) (hi j x y ex ey) rx ry
  ·rw[dt,show (its.toArray.size == its'.toArray.size)=true by simp;lia]
   exact⟨.bl false,H,I,rfl,q⟩
 ·obtain⟨its,r1,p1,z1⟩:=I.list (.inl h1)
  obtain⟨its',r2,p2,z2⟩:=I.list (.inl h2)
  have l1:=r1.length
  have l2:=r2.length
  refine SeqAt.RcNeAt.lists (e:=fun _=>true) p1.isList p2.isList (by simp;lia) (by lia) (fun j h1 h2=>?_) X.prog X.w _ _ ?_
  ·obtain⟨x,ex,rx⟩:=bi r1 h1
   obtain⟨y,ey,ry⟩:=bi r2 h2
   exact gg I 6 X.A.in1 (by rw[cE];lia) (hi j x y ex ey) rx ry
  ·rw[dt]
   exact⟨.bl false,H,I,rfl,q⟩
def ul (k:Bool→Bool):R2:=fun x y H Q=>∃ a b xs,x=.ref a∧y=.ref b∧Rd H a (.lst xs)∧Rd H b (.lst [])∧Q (.bl (k xs.isEmpty)) H
theorem lA (hu:X.A.units+8<cLine):OpR X (compareOp .Eq) (ul id):=by
 intro pins s σ H x y u v Q I ru rv h
 obtain⟨a,b,xs,rfl,rfl,h1,h2,q⟩:=h
 cases (show u=Value.ref a from ru)
 cases (show v=Value.ref b from rv)
 obtain⟨its,r1,p1,z1⟩:=I.list (.inl h1)
 obtain⟨its',r2,p2,z2⟩:=I.list (.inl h2)
 have l1:=r1.length
 cases r2
 cases xs with
 | nil =>
   cases r1
   refine SeqAt.eq_listAt (e:=fun _=>true) p1.isList p2.isList rfl (by lia) (fun j h1 h2=>by simp at h1) ?_
   exact⟨.bl true,H,I,rfl,q⟩
 | cons x xs =>
   refine SeqAt.eq_list_lengthsAt p1.isList p2.isList ?_ (by lia) ⟨.bl false,H,I,rfl,q⟩
   simp only[length_cons] at l1
   have:its.toArray.size≠0:=by simp;intro e;rw[e] at l1;simp at l1
   simpa using this
theorem qp (hu:X.A.units+8<cLine):OpR X (compareOp .NotEq) (ul not):=by
 intro pins s σ H x y u v Q I ru rv h
 obtain⟨a,b,xs,rfl,rfl,h1,h2,q⟩:=h
 cases (show u=Value.ref a from ru)
 cases (show v=Value.ref b from rv)
 obtain⟨its,r1,p1,z1⟩:=I.list (.inl h1)
 obtain⟨its',r2,p2,z2⟩:=I.list (.inl h2)
 have l1:=r1.length
 cases r2
 cases xs with
 | nil =>
   cases r1
   refine SeqAt.RcNeAt.lists (e:=fun _=>true) p1.isList p2.isList rfl (by lia) (fun j h1 h2=>by simp at h1) X.prog X.w _ _ ?_
   exact⟨.bl false,H,I,rfl,q⟩
 | cons x xs =>
   refine SeqAt.RcNeAt.lists_lengths p1.isList p2.isList ?_ (by lia) X.prog X.w _ _ ⟨.bl true,H,I,rfl,q⟩
   simp only[length_cons] at l1
   have:its.toArray.size≠0:=by simp;intro e;rw[e] at l1;simp at l1
   simpa using this
end
end L2
namespace TS
open PySem PyProof.Rows
def cB:Bool→Keyed→Array Keyed→Nat→Nat→Nat→StateT SortSt Sem (Option Nat):=sortPriv% PySem.Builtin.gallop
def ip:Array Keyed→Array Keyed→StateT SortSt Sem (Array Keyed):=sortPriv% PySem.Builtin.mergeLo
def iq:Array Keyed→Array Keyed→StateT SortSt Sem (Array Keyed):=sortPriv% PySem.Builtin.mergeHi
def bj:Nat→StateT SortSt Sem Unit:=sortPriv% PySem.Builtin.setMinGallop
structure Cmp (κ:SortKind)(prog:Program)(w:World)(A:Around)(s:Shared) where
 ok:Keyed→Prop
 r:Keyed→Keyed→Bool
 ask:∀ {E:Value→Shared→Prop} {st:SortSt} {x y:Keyed} {Q:Option Bool→SortSt→Prop},kindOf st=κ→ok x→ok y→Q (some (r x y)) st→wpS (model prog w) A E s (lt' x y) Q st
 irrefl:∀ a,r a a=false
 trans:∀ a b c,r a b=true→r b c=true→r a c=true
 neg:∀ a b c,r a c=true→r a b=true∨r b c=true
def G (xs:Array Keyed)(i:Nat):Keyed:=xs.getD i (Value.none,Value.none)
theorem du {xs:Array Keyed}{i:Nat}(h:i<xs.size):xs[i]? = some (G xs i):=by simp[G,Array.getD,h]
theorem i8 {xs ys:Array Keyed}{i j:Nat}(h:xs[i]? = ys[j]?):G xs i=G ys j:=by
 have a:∀ (zs:Array Keyed) (k:Nat),G zs k=(zs[k]?).getD (Value.none,Value.none):=fun zs k=>by simp[G]
 rw[a,a,h]
section
variable {κ:SortKind}{prog:Program}{w:World}{A:Around}{E:Value→Shared→Prop}{s:Shared}
def Cmp.le (O:Cmp κ prog w A s)(a b:Keyed):Prop:=O.r b a=false
variable (O:Cmp κ prog w A s)
theorem Cmp.le_refl (a:Keyed):O.le a a:=O.irrefl a
variable {O}
theorem Cmp.le_of_lt {a b:Keyed}(h:O.r a b=true):O.le a b:=by
 unfold Cmp.le
 cases e:O.r b a with
 | false=>rfl
 | true=>have:=O.trans _ _ _ h e;rw[O.irrefl] at this;cases this
theorem Cmp.le_trans {a b c:Keyed}(h1:O.le a b)(h2:O.le b c):O.le a c:=by
 unfold Cmp.le at *
 cases e:O.r c a with
 | false=>rfl
 | true =>
   rcases O.neg c b a e with z | z
   ·rw[h2] at z;cases z
   ·rw[h1] at z;cases z
theorem Cmp.lt_of_lt_of_le {a b c:Keyed}(h1:O.r a b=true)(h2:O.le b c):O.r a c=true:=by
 rcases O.neg a c b h1 with z | z
 ·exact z
 ·unfold Cmp.le at h2;rw[h2] at z;cases z
theorem Cmp.lt_of_le_of_lt {a b c:Keyed}(h1:O.le a b)(h2:O.r b c=true):O.r a c=true:=by
 rcases O.neg b a c h2 with z | z
 ·unfold Cmp.le at h1;rw[h1] at z;cases z
 ·exact z
theorem Cmp.le_of_not {a b:Keyed}(h:O.r a b=false):O.le b a:=h
theorem ag {arr:Array Keyed}{i:Nat}{st:SortSt}{Q:Keyed→SortSt→Prop}(hi:i<arr.size)(h:Q (G arr i) st):wpS (model prog w) A E s (elem' arr i) Q st:=by
 rw[elem'_eq,du hi]
 exact wpS_pure h
def gal (beyond:Nat→StateT SortSt Sem (Option Bool))(n hint:Nat):StateT SortSt Sem (Option Nat):=do
 let mut lastofs:=0
 let mut ofs:=1
 let mut lo:=0
 let mut hi:=0
 let some right ←beyond hint | return none
 if right then
  let maxofs:=n-hint
  for _ in [0:n] do
   if ofs≥maxofs then break
   let some more ←beyond (hint+ofs) | return none
   if !more then break
   lastofs:=ofs
   ofs:=2*ofs+1
  lo:=hint+lastofs+1
  hi:=hint+min ofs maxofs
 else
  let maxofs:=hint+1
  for _ in [0:n] do
   if ofs≥maxofs then break
   let some found ←beyond (hint-ofs) | return none
   if found then break
   lastofs:=ofs
   ofs:=2*ofs+1
  lo:=hint+1-min ofs maxofs
  hi:=hint-lastofs
 for _ in [0:n] do
  if lo≥hi then break
  let m:=lo+(hi-lo) / 2
  let some more ←beyond m | return none
  if more then lo:=m+1 else hi:=m
 return some hi
def gR (beyond:Nat→StateT SortSt Sem (Option Bool))(n lo0 hi0:Nat):StateT SortSt Sem (Option Nat):=do
 let mut lo:=lo0
 let mut hi:=hi0
 for _ in [0:n] do
  if lo≥hi then break
  let m:=lo+(hi-lo) / 2
  let some more ←beyond m | return none
  if more then lo:=m+1 else hi:=m
 return some hi
theorem iz (left:Bool)(key:Keyed)(arr:Array Keyed)(base n hint:Nat):cB left key arr base n hint=gal (fun i=>do
 let x ←elem' arr (base+i)
 if left then lt' x key else return (←lt' key x).map (!·)) n hint:=rfl
theorem ni {beyond:Nat→StateT SortSt Sem (Option Bool)}{n hint:Nat}{st:SortSt}{P:Nat→Bool}{Q:Option Nat→SortSt→Prop}
 (hb:∀ i (Q:Option Bool→SortSt→Prop),i<n→Q (some (P i)) st→wpS (model prog w) A E s (beyond i) Q st) (hh:hint<n) (hm:∀ i j,i≤j→j<n→P j=true→P i=true)
 (h:∀ k,k≤n→(∀ i,i<k→P i=true)→(∀ i,k≤i→i<n→P i=false)→Q (some k) st):wpS (model prog w) A E s (gal beyond n hint) Q st:=by
 have hm':∀ i j,i≤j→j<n→P i=false→P j=false:=fun i j h1 h2 h3=>by
  cases e:P j with
  | false=>rfl
  | true=>rw[hm i j h1 h2 e] at h3;cases h3
 have fin:∀ lo hi:Nat,lo≤hi→hi≤n→(∀ i,i<lo→P i=true)→(∀ i,hi≤i→i<n→P i=false)→wpS (model prog w) A E s (gR beyond n lo hi) Q st:=by
  intro lo hi hlh hhn h1 h2
  unfold gR
  dsimp only
  refine wpS_bind (wpS_mono (wpS_forRange (I:=fun x c st'=>st'=st∧∃ l r,c=(none,l,r)∧l≤r∧r≤n∧r-l≤n-x∧(∀ i,i<l→P i=true)∧∀ i,r≤i→i<n→P i=false)
   (Q:=fun c st'=>st'=st∧∃ l,c=(none,l,l)∧l≤n∧(∀ i,i<l→P i=true)∧∀ i,l≤i→i<n→P i=false) ?step ?fin ⟨rfl,lo,hi,rfl,hlh,hhn,by lia,h1,h2⟩) ?post)
  case fin =>
   rintro c st' ⟨rfl,l,r,rfl,a1,a2,a3,a4,a5⟩
   have e:l=r:=by lia
   subst e
   exact⟨rfl,l,rfl,a2,a4,a5⟩
  case step =>
   rintro x c st' _ hx ⟨rfl,l,r,rfl,a1,a2,a3,a4,a5⟩
   dsimp only
   by_cases hge:l≥r
   ·rw[if_pos hge]
    have e:l=r:=by lia
    subst e
    exact wpS_pure ⟨rfl,l,rfl,a2,a4,a5⟩
   ·rw[if_neg hge]
    refine wpS_bind (hb _ _ (by lia) ?_)
    cases hp:P (l+(r-l) / 2) with
    | true =>
      dsimp only
      rw[if_pos rfl]
      exact wpS_pure ⟨rfl,_,_,rfl,by lia,a2,by lia,fun i hi=>hm i (l+(r-l) / 2) (by lia) (by lia) hp,a5⟩
    | false =>
      dsimp only
      rw[if_neg Bool.false_ne_true]
      exact wpS_pure ⟨rfl,_,_,rfl,by lia,by lia,by lia,a4,fun i h1 h2=>hm' (l+(r-l) / 2) i (by assumption) h2 hp⟩
  case post =>
   rintro c st' ⟨rfl,l,rfl,a2,a4,a5⟩
   exact wpS_pure (h l a2 a4 a5)
 unfold gal
 dsimp only
 refine wpS_bind (hb hint _ hh ?_)
 cases hp:P hint with
 | true =>
   dsimp only
   rw[if_pos rfl]
   refine wpS_bind (wpS_mono (wpS_forRange (I:=fun x c st'=>st'=st∧∃ l o,c=(none,l,o)∧l<o∧x+1≤o∧hint+l<n∧P (hint+l)=true)
    (Q:=fun c st'=>st'=st∧∃ l o,c=(none,l,o)∧l<o∧hint+l<n∧P (hint+l)=true∧(n-hint≤o∨(hint+o<n∧P (hint+o)=false))) ?step ?fin ⟨rfl,0,1,rfl,by lia,by lia,by assumption,hp⟩) ?post)
   case fin =>
    rintro c st' ⟨rfl,l,o,rfl,a1,a2,a3,a4⟩
    exact⟨rfl,l,o,rfl,a1,a3,a4,.inl (by lia)⟩
   case step =>
    rintro x c st' _ hx ⟨rfl,l,o,rfl,a1,a2,a3,a4⟩
    dsimp only
    by_cases hge:o≥n-hint
    ·rw[if_pos hge]
     exact wpS_pure ⟨rfl,l,o,rfl,a1,a3,a4,.inl hge⟩
    ·rw[if_neg hge]
     refine wpS_bind (hb _ _ (by lia) ?_)
     cases hp2:P (hint+o) with
     | true =>
       dsimp only
       rw[if_neg (by simp)]
       exact wpS_pure ⟨rfl,_,_,rfl,by lia,by lia,by lia,hp2⟩
     | false =>
       dsimp only
       rw[if_pos (by simp)]
       exact wpS_pure ⟨rfl,l,o,rfl,a1,a3,a4,.inr ⟨by lia,hp2⟩⟩
   case post =>
    rintro c st' ⟨rfl,l,o,rfl,a1,a3,a4,a5⟩
    dsimp only
    change wpS _ _ _ _ (gR beyond n _ _) _ _
    refine fin (hint+l+1) (hint+min o (n-hint)) (by lia) (by lia) (fun i hi=>hm i (hint+l) (by lia) a3 a4) (fun i h1 h2=>?_)
    rcases a5 with z | ⟨z1,z2⟩
    ·lia
    ·exact hm' (hint+o) i (by lia) h2 z2
 | false =>
   dsimp only
   rw[if_neg Bool.false_ne_true]
   refine wpS_bind (wpS_mono (wpS_forRange (I:=fun x c st'=>st'=st∧∃ l o,c=(none,l,o)∧l<o∧x+1≤o∧l≤hint∧P (hint-l)=false)
    (Q:=fun c st'=>st'=st∧∃ l o,c=(none,l,o)∧l<o∧l≤hint∧P (hint-l)=false∧(hint+1≤o∨(o≤hint∧P (hint-o)=true))) ?step ?fin ⟨rfl,0,1,rfl,by lia,by lia,by lia,hp⟩) ?post)
   case fin =>
    rintro c st' ⟨rfl,l,o,rfl,a1,a2,a3,a4⟩
    exact⟨rfl,l,o,rfl,a1,a3,a4,.inl (by lia)⟩
   case step =>
    rintro x c st' _ hx ⟨rfl,l,o,rfl,a1,a2,a3,a4⟩
    dsimp only
    by_cases hge:o≥hint+1
    ·rw[if_pos hge]
     exact wpS_pure ⟨rfl,l,o,rfl,a1,a3,a4,.inl hge⟩
    ·rw[if_neg hge]
     refine wpS_bind (hb _ _ (by lia) ?_)
     cases hp2:P (hint-o) with
     | false =>
       dsimp only
       rw[if_neg (by simp)]
       exact wpS_pure ⟨rfl,_,_,rfl,by lia,by lia,by lia,hp2⟩
     | true =>
       dsimp only
       rw[if_pos (by simp)]
       exact wpS_pure ⟨rfl,l,o,rfl,a1,a3,a4,.inr ⟨by lia,hp2⟩⟩
   case post =>
    rintro c st' ⟨rfl,l,o,rfl,a1,a3,a4,a5⟩
    dsimp only
    change wpS _ _ _ _ (gR beyond n _ _) _ _
    refine fin (hint+1-min o (hint+1)) (hint-l) (by lia) (by lia) (fun i hi=>?_) (fun i h1 h2=>hm' (hint-l) i h1 h2 a4)
    rcases a5 with z | ⟨z1,z2⟩
    ·lia
    ·exact hm i (hint-o) (by lia) (by lia) z2
structure Run (O:Cmp κ prog w A s)(xs:Array Keyed)(a b:Nat):Prop where
 sz:b≤xs.size
 ok:∀ i,a≤i→i<b→O.ok (G xs i)
 srt:∀ i j,a≤i→i≤j→j<b→O.le (G xs i) (G xs j)
theorem Run.sub {xs:Array Keyed}{a b c d:Nat}(h:Run O xs a b)(h1:a≤c)(h2:d≤b):Run O xs c d :=
 ⟨Nat.le_trans h2 h.sz,fun i x y=>h.ok i (by lia) (by lia),fun i j x y z=>h.srt i j (by lia) y (by lia)⟩
theorem a6 {key:Keyed}{arr:Array Keyed}{base n hint:Nat}{st:SortSt}{Q:Option Nat→SortSt→Prop}(hk:kindOf st=κ)(hkey:O.ok key)(hr:Run O arr base (base+n))(hh:hint<n)
 (h:∀ k,k≤n→(∀ i,base≤i→i<base+k→O.r (G arr i) key=true)→(∀ i,base+k≤i→i<base+n→O.le key (G arr i))→Q (some k) st) :
 wpS (model prog w) A E s (cB true key arr base n hint) Q st:=by
 rw[iz]
 refine ni (P:=fun i=>O.r (G arr (base+i)) key) (fun i Q hi q=>?_) hh (fun i j h1 h2 h3=>Cmp.lt_of_le_of_lt (hr.srt _ _ (by lia) (by lia) (by lia)) h3) fun k h1 h2 h3=>h k h1 (fun i x y=>?_) (fun i x y=>?_)
 ·refine wpS_bind (ag (by have:=hr.sz;lia) ?_)
  rw[if_pos rfl]
  exact O.ask hk (hr.ok _ (by lia) (by lia)) hkey q
 ·have:=h2 (i-base) (by lia);rwa [show base+(i-base)=i by lia] at this
 ·have:=h3 (i-base) (by lia) (by lia);rwa [show base+(i-base)=i by lia] at this
theorem b6 {key:Keyed}{arr:Array Keyed}{base n hint:Nat}{st:SortSt}{Q:Option Nat→SortSt→Prop}(hk:kindOf st=κ)(hkey:O.ok key)(hr:Run O arr base (base+n))(hh:hint<n)
 (h:∀ k,k≤n→(∀ i,base≤i→i<base+k→O.le (G arr i) key)→(∀ i,base+k≤i→i<base+n→O.r key (G arr i)=true)→Q (some k) st) :
 wpS (model prog w) A E s (cB false key arr base n hint) Q st:=by
 rw[iz]
 refine ni (P:=fun i=>!O.r key (G arr (base+i))) (fun i Q hi q=>?_) hh (fun i j h1 h2 h3=>?_) fun k h1 h2 h3=>h k h1 (fun i x y=>?_) (fun i x y=>?_)
 ·refine wpS_bind (ag (by have:=hr.sz;lia) ?_)
  rw[if_neg Bool.false_ne_true]
  refine wpS_bind (O.ask hk hkey (hr.ok _ (by lia) (by lia)) (wpS_pure ?_))
  exact q
 ·have h3':O.le (G arr (base+j)) key:=by unfold Cmp.le;simpa using h3
  have:=Cmp.le_trans (hr.srt (base+i) (base+j) (by lia) (by lia) (by lia)) h3'
  unfold Cmp.le at this;simpa using this
 ·have:=h2 (i-base) (by lia);rw[show base+(i-base)=i by lia] at this;unfold Cmp.le;simpa using this
 ·have:=h3 (i-base) (by lia) (by lia);rw[show base+(i-base)=i by lia] at this;simpa using this
end
end TS
set_option autoImplicit false
namespace TS
open PySem PyProof.Rows
section
variable {κ:SortKind}{prog:Program}{w:World}{A:Around}{E:Value→Shared→Prop}{s:Shared}{O:Cmp κ prog w A s}
structure dI (st st':SortSt):Prop where
 kind:kindOf st'=kindOf st
 arr:arrOf st'=arrOf st
 pend:pendingOf st'=pendingOf st
 failed:failedOf st'=failedOf st
theorem dI.refl (st:SortSt):dI st st:=⟨rfl,rfl,rfl,rfl⟩
theorem fY (g:Nat):bj g=modify (fun s=>SortSt.mk' (kindOf s) (arrOf s) (pendingOf s) g (failedOf s)):=rfl
theorem bS {st0 st:SortSt}{g:Nat}{Q:Unit→SortSt→Prop}(l:dI st0 st)(h:∀ st',dI st0 st'→Q () st'):wpS (model prog w) A E s (bj g) Q st:=by
 rw[fY]
 exact wpS_modify (h _ ⟨l.kind,l.arr,l.pend,l.failed⟩)
structure Mrg (R:Keyed→Keyed→Prop)(all out ra rb:List Keyed):Prop where
 perm:(out++ra++rb).Perm all
 srt:out.Pairwise R
 sa:ra.Pairwise R
 sb:rb.Pairwise R
 lo:∀ x∈out,∀ y∈ra++rb,R x y
def dJ (R:Keyed→Keyed→Prop)(all res:List Keyed):Prop:=res.Perm all∧res.Pairwise R
theorem bD {l m:List Keyed}{R:Keyed→Keyed→Prop}(h1:l.Pairwise R)(h2:m.Pairwise R)(h3:∀ x∈l,∀ y∈m,R x y):(l++m).Pairwise R:=pairwise_append.mpr ⟨h1,h2,h3⟩
variable {R:Keyed→Keyed→Prop}{all out ra rb:List Keyed}
theorem Mrg.doneA (M:Mrg R all out ra []):dJ R all (out++ra):=by
 refine⟨by simpa using M.perm,bD M.srt M.sa fun x hx y hy=>M.lo x hx y (by simpa using hy)⟩
theorem Mrg.doneB (M:Mrg R all out [] rb):dJ R all (out++rb):=by
 refine⟨by simpa using M.perm,bD M.srt M.sb fun x hx y hy=>M.lo x hx y (by simpa using hy)⟩
theorem Mrg.last (M:Mrg R all out ra rb)(h:∀ x∈rb,∀ y∈ra,R x y):dJ R all (out++rb++ra):=by
 refine⟨?_,bD (bD M.srt M.sb fun x hx y hy=>M.lo x hx y (mem_append_right _ hy)) M.sa fun x hx y hy=>?_⟩
 ·refine List.Perm.trans ?_ M.perm
  rw[append_assoc,append_assoc]
  exact List.Perm.append_left _ List.perm_append_comm
 ·rcases mem_append.mp hx with z | z
  ·exact M.lo x z y (mem_append_left _ hy)
  ·exact h x z y hy
theorem Mrg.moveA {t rest:List Keyed}(M:Mrg R all out (t++rest) rb)(h:∀ x∈t,∀ y∈rb,R x y):Mrg R all (out++t) rest rb:=by
 obtain⟨p1,p2,p3⟩:=pairwise_append.mp M.sa
 refine⟨by simpa[append_assoc] using M.perm,bD M.srt p1 fun x hx y hy=>M.lo x hx y (by simp[hy]),p2,M.sb,fun x hx y hy=>?_⟩
 rcases mem_append.mp hx with z | z
 ·exact M.lo x z y (by rcases mem_append.mp hy with q | q <;> simp[q])
 ·rcases mem_append.mp hy with q | q
  ·exact p3 x z y q
  ·exact h x z y q
theorem Mrg.moveB {t rest:List Keyed}(M:Mrg R all out ra (t++rest))(h:∀ x∈t,∀ y∈ra,R x y):Mrg R all (out++t) ra rest:=by
 obtain⟨p1,p2,p3⟩:=pairwise_append.mp M.sb
 refine⟨?_,bD M.srt p1 fun x hx y hy=>M.lo x hx y (by simp[hy]),M.sa,p2,fun x hx y hy=>?_⟩
 ·refine List.Perm.trans ?_ M.perm
  simp only[append_assoc]
  refine List.Perm.append_left _ ?_
  rw[←append_assoc,←append_assoc]
  exact List.Perm.append_right _ List.perm_append_comm
 ·rcases mem_append.mp hx with z | z
  ·exact M.lo x z y (by rcases mem_append.mp hy with q | q <;> simp[q])
  ·rcases mem_append.mp hy with q | q
   ·exact h x z y q
   ·exact p3 x z y q
theorem Mrg.len (M:Mrg R all out ra rb):out.length+ra.length+rb.length=all.length:=by
 have:=M.perm.length_eq
 simp only[length_append] at this
 assumption
theorem jC {xs:Array Keyed}{i:Nat}(h:i<xs.size):xs.toList.drop i=G xs i :: xs.toList.drop (i+1):=by
 have e:xs.toList[i]? = some (G xs i):=by rw[Array.getElem?_toList];exact du h
 rw[drop_eq_getElem_cons (by simpa using h)]
 congr 1
 rw[getElem?_eq_getElem (by simpa using h)] at e
 exact Option.some.inj e
theorem dn {xs:Array Keyed}{i:Nat}{x:Keyed}(h:x∈xs.toList.drop i):∃ j,i≤j∧j<xs.size∧x=G xs j:=by
 obtain⟨k,hk,e⟩:=List.getElem_of_mem h
 simp only[length_drop,Array.length_toList] at hk
 refine⟨i+k,by lia,by lia,?_⟩
 rw[List.getElem_drop] at e
 have e2:xs.toList[i+k]? = some (G xs (i+k)):=by rw[Array.getElem?_toList];exact du (by lia)
 rw[getElem?_eq_getElem (by simp;lia)] at e2
 rw[←e];exact Option.some.inj e2
theorem bY {xs:Array Keyed}{i k:Nat}{x:Keyed}(h:x∈(xs.toList.drop i).take k):∃ j,i≤j∧j<i+k∧j<xs.size∧x=G xs j:=by
 obtain⟨n,hn,e⟩:=List.getElem_of_mem h
 simp only[length_take,length_drop,Array.length_toList] at hn
 refine⟨i+n,by lia,by lia,by lia,?_⟩
 rw[List.getElem_take,List.getElem_drop] at e
 have e2:xs.toList[i+n]? = some (G xs (i+n)):=by rw[Array.getElem?_toList];exact du (by lia)
 rw[getElem?_eq_getElem (by simp;lia)] at e2
 rw[←e];exact Option.some.inj e2
theorem ce (xs:Array Keyed)(i j:Nat):(xs.extract i j).toList=(xs.toList.drop i).take (j-i):=by
 rw[Array.toList_extract,List.extract_eq_take_drop]
theorem gS (xs:Array Keyed)(i:Nat):(xs.extract i xs.size).toList=xs.toList.drop i:=by
 rw[ce];exact take_of_length_le (by simp)
theorem gY {xs:Array Keyed}(h:Run O xs 0 xs.size):xs.toList.Pairwise O.le:=by
 rw[pairwise_iff_getElem]
 intro i j hi hj hij
 simp only[Array.length_toList] at hi hj
 have e1:xs.toList[i]? = some (G xs i):=by rw[Array.getElem?_toList];exact du hi
 have e2:xs.toList[j]? = some (G xs j):=by rw[Array.getElem?_toList];exact du hj
 rw[getElem?_eq_getElem (by simpa using hi)] at e1
 rw[getElem?_eq_getElem (by simpa using hj)] at e2
 rw[Option.some.inj e1,Option.some.inj e2]
 exact h.srt i j (by lia) (by lia) hj
theorem lM (a b:Array Keyed):ip a b=(do
 rule "list.sort.merge-lo"
 let total:=a.size+b.size
 let done (out:Array Keyed) (ia ib:Nat):=out++a.extract ia a.size++b.extract ib b.size
 let lastOfA (out:Array Keyed) (ia ib:Nat):=out++b.extract ib b.size++a.extract ia a.size
 let mut out:Array Keyed:=#[←elem' b 0]
 let mut ia:=0
 let mut ib:=1
 if ib == b.size then return done out ia ib
 if ia+1 == a.size then return lastOfA out ia ib
 let mut minGallop:=gallopOf (←get)
 for _ in [0:total] do
  let mut acount:=0
  let mut bcount:=0
  for _ in [0:total] do
   let some bWins ←lt' (←elem' b ib) (←elem' a ia) | return done out ia ib
   if bWins then
    out:=out.push (←elem' b ib);ib:=ib+1;bcount:=bcount+1;acount:=0
    if ib == b.size then return done out ia ib
    if bcount≥minGallop then break
   else
    out:=out.push (←elem' a ia);ia:=ia+1;acount:=acount+1;bcount:=0
    if ia+1 == a.size then return lastOfA out ia ib
    if acount≥minGallop then break
  rule "list.sort.gallop"
  minGallop:=minGallop+1
  for _ in [0:total] do
   if minGallop>1 then minGallop:=minGallop-1
   bj minGallop
   let some k ←cB false (←elem' b ib) a ia (a.size-ia) 0 | return done out ia ib
   acount:=k
   if k>0 then
    out:=out++a.extract ia (ia+k);ia:=ia+k
    if ia+1 == a.size then return lastOfA out ia ib
    if ia == a.size then return done out ia ib
   out:=out.push (←elem' b ib);ib:=ib+1
   if ib == b.size then return done out ia ib
   let some k ←cB true (←elem' a ia) b ib (b.size-ib) 0 | return done out ia ib
   bcount:=k
   if k>0 then
    out:=out++b.extract ib (ib+k);ib:=ib+k
    if ib == b.size then return done out ia ib
   out:=out.push (←elem' a ia);ia:=ia+1
   if ia+1 == a.size then return lastOfA out ia ib
   if acount<7 && bcount<7 then break
  minGallop:=minGallop+1
  bj minGallop
 unsupported "internal:list.sort.merge-bound"):=rfl
structure MLo (O:Cmp κ prog w A s)(a b out:Array Keyed)(ia ib:Nat):Prop where
 m:Mrg O.le (a.toList++b.toList) out.toList (a.toList.drop ia) (b.toList.drop ib)
 ha:ia+1<a.size
 hb:ib<b.size
variable {a b out':Array Keyed}{ia ib k:Nat}
theorem MLo.le (M:MLo O a b out' ia ib):out'.size+3≤a.size+b.size:=by
 have:=M.m.len
 simp only[Array.length_toList,length_drop,length_append] at this
 have:=M.ha;have:=M.hb
 lia
theorem kG {st:SortSt}{Q:Array Keyed→SortSt→Prop}(hk:kindOf st=κ)(ra:Run O a 0 a.size)(rb:Run O b 0 b.size)(ha:0<a.size)(hb:0<b.size)(h0:O.r (G b 0) (G a 0)=true)
 (hl:∀ i,i<b.size→O.r (G b i) (G a (a.size-1))=true) (h:∀ res st',dI st st'→dJ O.le (a.toList++b.toList) res.toList→Q res st'):wpS (model prog w) A E s (ip a b) Q st:=by
 have endB:∀ {out:Array Keyed} {ia ib:Nat},Mrg O.le (a.toList++b.toList) out.toList (a.toList.drop ia) (b.toList.drop ib)→ib=b.size→dJ O.le (a.toList++b.toList) (out++a.extract ia a.size++b.extract ib b.size).toList:=by
  intro out ia ib M e
  have eb:b.toList.drop ib=[]:=by rw[e];exact List.drop_eq_nil_of_le (by simp)
  rw[eb] at M
  rw[Array.toList_append,Array.toList_append,gS,gS,eb,append_nil]
  exact M.doneA
 have endA:∀ {out:Array Keyed} {ia ib:Nat},Mrg O.le (a.toList++b.toList) out.toList (a.toList.drop ia) (b.toList.drop ib)→ia+1=a.size→dJ O.le (a.toList++b.toList) (out++b.extract ib b.size++a.extract ia a.size).toList:=by
  intro out ia ib M e
  rw[Array.toList_append,Array.toList_append,gS,gS]
  refine M.last fun x hx y hy=>?_
  obtain⟨j,_,hj,rfl⟩:=dn hx
  obtain⟨i,hi,hi2,rfl⟩:=dn hy
  have:i=a.size-1:=by lia
  subst this
  exact Cmp.le_of_lt (hl j hj)
 have oneB:∀ {out:Array Keyed} {ia ib:Nat},Mrg O.le (a.toList++b.toList) out.toList (a.toList.drop ia) (b.toList.drop ib)→ib<b.size→(∀ j,ia≤j→j<a.size→O.le (G b ib) (G a j)) →
  Mrg O.le (a.toList++b.toList) (out.push (G b ib)).toList (a.toList.drop ia) (b.toList.drop (ib+1)):=by
  intro out ia ib M hib hle
  rw[jC hib] at M
  rw[Array.toList_push]
  refine M.moveB (t:=[G b ib]) fun x hx y hy=>?_
  have e:x=G b ib:=by simpa using hx
  subst e
  obtain⟨j,h1,h2,rfl⟩:=dn hy
  exact hle j h1 h2
 have oneA:∀ {out:Array Keyed} {ia ib:Nat},Mrg O.le (a.toList++b.toList) out.toList (a.toList.drop ia) (b.toList.drop ib)→ia<a.size→(∀ j,ib≤j→j<b.size→O.le (G a ia) (G b j)) →
  Mrg O.le (a.toList++b.toList) (out.push (G a ia)).toList (a.toList.drop (ia+1)) (b.toList.drop ib):=by
  intro out ia ib M hia hle
  rw[jC hia] at M
  rw[Array.toList_push]
  refine M.moveA (t:=[G a ia]) fun x hx y hy=>?_
  have e:x=G a ia:=by simpa using hx
  subst e
  obtain⟨j,h1,h2,rfl⟩:=dn hy
  exact hle j h1 h2
 have manyA:∀ {out:Array Keyed} {ia ib k:Nat},Mrg O.le (a.toList++b.toList) out.toList (a.toList.drop ia) (b.toList.drop ib)→ib<b.size→(∀ i,ia≤i→i<ia+k→O.le (G a i) (G b ib)) →
  Mrg O.le (a.toList++b.toList) (out++a.extract ia (ia+k)).toList (a.toList.drop (ia+k)) (b.toList.drop ib):=by
  intro out ia ib k M hib hle
  rw[←take_append_drop k (a.toList.drop ia),drop_drop] at M
  rw[Array.toList_append,ce,show ia+k-ia=k by lia]
  refine M.moveA fun x hx y hy=>?_
  obtain⟨i,h1,h2,h3,rfl⟩:=bY hx
  obtain⟨j,h4,h5,rfl⟩:=dn hy
  exact Cmp.le_trans (hle i h1 h2) (rb.srt _ _ (by lia) h4 h5)
 have manyB:∀ {out:Array Keyed} {ia ib k:Nat},Mrg O.le (a.toList++b.toList) out.toList (a.toList.drop ia) (b.toList.drop ib)→ia<a.size→(∀ i,ib≤i→i<ib+k→O.r (G b i) (G a ia)=true) →
  Mrg O.le (a.toList++b.toList) (out++b.extract ib (ib+k)).toList (a.toList.drop ia) (b.toList.drop (ib+k)):=by
  intro out ia ib k M hia hle
  rw[←take_append_drop k (b.toList.drop ib),drop_drop] at M
  rw[Array.toList_append,ce,show ib+k-ib=k by lia]
  refine M.moveB fun x hx y hy=>?_
  obtain⟨i,h1,h2,h3,rfl⟩:=bY hx
  obtain⟨j,h4,h5,rfl⟩:=dn hy
  exact Cmp.le_trans (Cmp.le_of_lt (hle i h1 h2)) (ra.srt _ _ (by lia) h4 h5)
 rw[lM]
 refine wpS_bind (wpS_lift (wpAny_rule ⟨rfl,?_⟩))
 dsimp only
 refine wpS_bind (ag hb ?_)
 have M0:Mrg O.le (a.toList++b.toList) (#[]:Array Keyed).toList (a.toList.drop 0) (b.toList.drop 0):=by
  refine⟨by simp,by simp,by simpa using gY ra,by simpa using gY rb,fun x hx=>by simp at hx⟩
 have M1:Mrg O.le (a.toList++b.toList) (#[G b 0]:Array Keyed).toList (a.toList.drop 0) (b.toList.drop 1) :=
  oneB (out:=#[]) M0 hb fun j h1 h2=>Cmp.le_of_lt (Cmp.lt_of_lt_of_le h0 (ra.srt 0 j (by lia) (by assumption) h2))
 by_cases c1:(1 == b.size)=true
 ·rw[if_pos c1]
  exact wpS_pure (h _ _ (.refl _) (endB M1 (by simpa using c1)))
 rw[if_neg c1]
 by_cases c2:(0+1 == a.size)=true
 ·rw[if_pos c2]
  exact wpS_pure (h _ _ (.refl _) (endA M1 (by simpa using c2)))
 rw[if_neg c2]
 have c1':¬ 1=b.size:=by simpa using c1
 have c2':¬ 1=a.size:=by simpa using c2
 refine wpS_bind (wpS_get ?_)
 refine wpS_bind (wpS_mono (wpS_forRange
  (I:=fun x c st'=>dI st st'∧∃ out ia ib mg,c=(none,out,ia,ib,mg)∧MLo O a b out ia ib∧x+1≤out.size)
  (Q:=fun c st'=>dI st st'∧∃ res,c.1=some res∧dJ O.le (a.toList++b.toList) res.toList) ?step ?fin ⟨.refl _,_,0,1,_,rfl,⟨M1,by lia,by lia⟩,by simp⟩) ?post)
 case post =>
  rintro⟨c1,c2⟩ st' ⟨L,res,e,g⟩
  have e':c1=some res:=e
  subst e'
  exact wpS_pure (h res st' L g)
 case fin =>
  rintro c st' ⟨L,out,ia,ib,mg,rfl,M,hx⟩
  have:=M.le
  exfalso;lia
 case step =>
  rintro x c st' _ hxt ⟨L,out,ia,ib,mg,rfl,M,hx⟩
  dsimp only
  refine wpS_bind (wpS_mono (wpS_forRange
   (I:=fun y c st'=>dI st st'∧∃ o2 ia ib ac bc,c=(none,o2,ia,ib,ac,bc)∧MLo O a b o2 ia ib∧out.size+y≤o2.size)
   (Q:=fun c st'=>dI st st'∧((∃ res,c.1=some res∧dJ O.le (a.toList++b.toList) res.toList)∨∃ o2 ia ib ac bc,c=(none,o2,ia,ib,ac,bc)∧MLo O a b o2 ia ib∧out.size+1≤o2.size)) ?s1 ?f1 ⟨L,out,ia,ib,0,0,rfl,M,by lia⟩) ?p1)
  case f1 =>
   rintro c st2 ⟨L2,o2,i2,j2,ac,bc,rfl,M2,h2⟩
   exact⟨L2,.inr ⟨o2,i2,j2,ac,bc,rfl,M2,by lia⟩⟩
  case s1 =>
   rintro y c st2 _ hy ⟨L2,o2,i2,j2,ac,bc,rfl,M2,h2⟩
   dsimp only
   have hk2:kindOf st2=κ:=L2.kind.trans hk
   refine wpS_bind (ag M2.hb (wpS_bind (ag (by have:=M2.ha;lia) ?_)))
   refine wpS_bind (O.ask hk2 (rb.ok _ (by lia) M2.hb) (ra.ok _ (by lia) (by have:=M2.ha;lia)) ?_)
   cases hw:O.r (G b j2) (G a i2) with
   | true =>
     dsimp only
     rw[if_pos rfl]
     refine wpS_bind (ag M2.hb ?_)
     have N:=oneB M2.m M2.hb fun j q1 q2=>Cmp.le_of_lt (Cmp.lt_of_lt_of_le hw (ra.srt i2 j (by lia) q1 q2))
     by_cases c3:(j2+1 == b.size)=true
     ·rw[if_pos c3]
      exact wpS_pure ⟨L2,.inl ⟨_,rfl,endB N (by simpa using c3)⟩⟩
     rw[if_neg c3]
     have c3':¬ j2+1=b.size:=by simpa using c3
     have N':MLo O a b (o2.push (G b j2)) i2 (j2+1):=⟨N,M2.ha,by have:=M2.hb;lia⟩
     split
     ·exact wpS_pure ⟨L2,.inr ⟨_,_,_,_,_,rfl,N',by rw[Array.size_push];lia⟩⟩
     ·exact wpS_pure ⟨L2,_,_,_,_,_,rfl,N',by rw[Array.size_push];lia⟩
   | false =>
     dsimp only
     rw[if_neg Bool.false_ne_true]
     refine wpS_bind (ag (by have:=M2.ha;lia) ?_)
     have N:=oneA M2.m (by have:=M2.ha;lia) fun j q1 q2=>Cmp.le_trans (Cmp.le_of_not hw) (rb.srt j2 j (by lia) q1 q2)
     by_cases c3:(i2+1+1 == a.size)=true
     ·rw[if_pos c3]
      exact wpS_pure ⟨L2,.inl ⟨_,rfl,endA N (by simpa using c3)⟩⟩
     rw[if_neg c3]
     have c3':¬ i2+1+1=a.size:=by simpa using c3
     have N':MLo O a b (o2.push (G a i2)) (i2+1) j2:=⟨N,by have:=M2.ha;lia,M2.hb⟩
     split
     ·exact wpS_pure ⟨L2,.inr ⟨_,_,_,_,_,rfl,N',by rw[Array.size_push];lia⟩⟩
     ·exact wpS_pure ⟨L2,_,_,_,_,_,rfl,N',by rw[Array.size_push];lia⟩
  case p1 =>
   rintro⟨c1,c2⟩ st2 ⟨L2,hc⟩
   rcases hc with⟨res,e,g⟩ | ⟨o2,i2,j2,ac,bc,e,M2,h2⟩
   ·have e':c1=some res:=e
    subst e'
    exact wpS_pure ⟨L2,res,rfl,g⟩
   cases e
   dsimp only
   refine wpS_bind (wpS_lift (wpAny_rule ⟨rfl,?_⟩))
   refine wpS_bind (wpS_mono (wpS_forRange
    (I:=fun y c st'=>dI st st'∧∃ o3 ia ib mg ac bc,c=(none,o3,ia,ib,mg,ac,bc)∧MLo O a b o3 ia ib∧out.size+1≤o3.size)
    (Q:=fun c st'=>dI st st'∧((∃ res,c.1=some res∧dJ O.le (a.toList++b.toList) res.toList)∨∃ o3 ia ib mg ac bc,c=(none,o3,ia,ib,mg,ac,bc)∧MLo O a b o3 ia ib∧out.size+1≤o3.size)) ?s2 ?f2 ⟨L2,o2,i2,j2,_,ac,bc,rfl,M2,h2⟩) ?p2)
   case f2 =>
    rintro c st3 ⟨L3,o3,i3,j3,mg3,ac3,bc3,rfl,M3,h3⟩
    exact⟨L3,.inr ⟨o3,i3,j3,mg3,ac3,bc3,rfl,M3,h3⟩⟩
   case p2 =>
    rintro⟨c1,c2⟩ st3 ⟨L3,hc⟩
    rcases hc with⟨res,e,g⟩ | ⟨o3,i3,j3,mg3,ac3,bc3,e,M3,h3⟩
    ·have e':c1=some res:=e
     subst e'
     exact wpS_pure ⟨L3,res,rfl,g⟩
    cases e
    dsimp only
    exact wpS_bind (bS L3 fun st4 L4=>wpS_pure ⟨L4,_,_,_,_,rfl,M3,by lia⟩)
   case s2 =>
    rintro y c st3 _ hy ⟨L3,o3,i3,j3,mg3,ac3,bc3,rfl,M3,h3⟩
    dsimp only
    have hka:i3<a.size:=by have:=M3.ha;lia
    by_cases hmg:mg3>1
    ·rw[if_pos hmg]
     refine wpS_bind (bS L3 fun st4 L4=>?_)
     refine wpS_bind (ag M3.hb ?_)
     refine wpS_bind (b6 (O:=O) (L4.kind.trans hk) (rb.ok _ (by lia) M3.hb) (ra.sub (by lia) (by lia)) (by lia) fun k k1 k2 k3=>?_)
     have hk4:i3+k+1≤a.size:=by
      rcases Nat.lt_or_ge (i3+k) a.size with z | z
      ·assumption
      ·have q:=k2 (a.size-1) (by lia) (by lia)
       have q2:=hl j3 M3.hb
       unfold Cmp.le at q
       rw[q] at q2;cases q2
     dsimp only
     by_cases hk0:k>0
     ·rw[if_pos hk0]
      have N:=manyA (k:=k) M3.m M3.hb k2
      by_cases c4:(i3+k+1 == a.size)=true
      ·rw[if_pos c4]
       exact wpS_pure ⟨L4,.inl ⟨_,rfl,endA N (by simpa using c4)⟩⟩
      rw[if_neg c4]
      have c4':¬ i3+k+1=a.size:=by simpa using c4
      rw[if_neg (by simp;lia)]
      have ho4:out.size+1≤(o3++a.extract i3 (i3+k)).size:=by rw[Array.size_append];lia
      have hlt:∀ i,i3+k≤i→i<a.size→O.r (G b j3) (G a i)=true:=fun i q1 q2=>k3 i q1 (by lia)
      have hi4:i3+k+1<a.size:=by lia
      clear hk4 c4 c4' k1 k2 k3
      revert ho4 hlt hi4 N
      generalize o3++a.extract i3 (i3+k)=o4
      generalize i3+k=i4
      intro M4 ho4 hlt hi4
      refine wpS_bind (ag M3.hb ?_)
      have N:=oneB M4 M3.hb fun j q1 q2=>Cmp.le_of_lt (hlt j q1 q2)
      by_cases c3:(j3+1 == b.size)=true
      ·rw[if_pos c3]
       exact wpS_pure ⟨L4,.inl ⟨_,rfl,endB N (by simpa using c3)⟩⟩
      rw[if_neg c3]
      have c3':¬ j3+1=b.size:=by simpa using c3
      have hj3:=M3.hb
      refine wpS_bind (ag (by lia) ?_)
      refine wpS_bind (a6 (O:=O) (L4.kind.trans hk) (ra.ok _ (by lia) (by lia)) (rb.sub (by lia) (by lia)) (by lia) fun k2 k21 k22 k23=>?_)
      dsimp only
      by_cases hk0:k2>0
      ·rw[if_pos hk0]
       have N2:=manyB (k:=k2) N (by lia) k22
       by_cases c4:(j3+1+k2 == b.size)=true
       ·rw[if_pos c4]
        exact wpS_pure ⟨L4,.inl ⟨_,rfl,endB N2 (by simpa using c4)⟩⟩
       rw[if_neg c4]
       have c4':¬ j3+1+k2=b.size:=by simpa using c4
       refine wpS_bind (ag (by lia) ?_)
       have N5:=oneA N2 (by lia) (fun j q1 q2=>k23 j q1 (by lia))
       by_cases c5:(i4+1+1 == a.size)=true
       ·rw[if_pos c5]
        exact wpS_pure ⟨L4,.inl ⟨_,rfl,endA N5 (by simpa using c5)⟩⟩
       rw[if_neg c5]
       have c5':¬ i4+1+1=a.size:=by simpa using c5
       have N5':MLo O a b _ (i4+1) _:=⟨N5,by lia,by lia⟩
       by_cases c6:(decide (k<7) && decide (k2<7))=true
       ·rw[if_pos c6]
        exact wpS_pure ⟨L4,.inr ⟨_,_,_,_,_,_,rfl,N5',by rw[Array.size_push];rw[Array.size_append,Array.size_push];lia⟩⟩
       ·rw[if_neg c6]
        exact wpS_pure ⟨L4,_,_,_,_,_,_,rfl,N5',by rw[Array.size_push];rw[Array.size_append,Array.size_push];lia⟩
      ·rw[if_neg hk0]
       have e0:k2=0:=by lia
       skip
       refine wpS_bind (ag (by lia) ?_)
       have N5:=oneA N (by lia) (fun j q1 q2=>k23 j (by lia) (by lia))
       by_cases c5:(i4+1+1 == a.size)=true
       ·rw[if_pos c5]
        exact wpS_pure ⟨L4,.inl ⟨_,rfl,endA N5 (by simpa using c5)⟩⟩
       rw[if_neg c5]
       have c5':¬ i4+1+1=a.size:=by simpa using c5
       have N5':MLo O a b _ (i4+1) _:=⟨N5,by lia,by lia⟩
       by_cases c6:(decide (k<7) && decide (k2<7))=true
       ·rw[if_pos c6]
        exact wpS_pure ⟨L4,.inr ⟨_,_,_,_,_,_,rfl,N5',by rw[Array.size_push];rw[Array.size_push];lia⟩⟩
       ·rw[if_neg c6]
        exact wpS_pure ⟨L4,_,_,_,_,_,_,rfl,N5',by rw[Array.size_push];rw[Array.size_push];lia⟩
     ·rw[if_neg hk0]
      have e0:k=0:=by lia
      have M4:=M3.m
      have hi4:=M3.ha
      have ho4:=h3
      have hlt:∀ i,i3≤i→i<a.size→O.r (G b j3) (G a i)=true:=fun i q1 q2=>k3 i (by lia) (by lia)
      clear hk4 k1 k2 k3 e0 hk0
      refine wpS_bind (ag M3.hb ?_)
      have N:=oneB M4 M3.hb fun j q1 q2=>Cmp.le_of_lt (hlt j q1 q2)
      by_cases c3:(j3+1 == b.size)=true
      ·rw[if_pos c3]
       exact wpS_pure ⟨L4,.inl ⟨_,rfl,endB N (by simpa using c3)⟩⟩
      rw[if_neg c3]
      have c3':¬ j3+1=b.size:=by simpa using c3
      have hj3:=M3.hb
      refine wpS_bind (ag (by assumption) ?_)
      refine wpS_bind (a6 (O:=O) (L4.kind.trans hk) (ra.ok _ (by lia) (by assumption)) (rb.sub (by lia) (by lia)) (by lia) fun k2 k21 k22 k23=>?_)
      dsimp only
      by_cases hk0:k2>0
      ·rw[if_pos hk0]
       have N2:=manyB (k:=k2) N (by assumption) k22
       by_cases c4:(j3+1+k2 == b.size)=true
       ·rw[if_pos c4]
        exact wpS_pure ⟨L4,.inl ⟨_,rfl,endB N2 (by simpa using c4)⟩⟩
       rw[if_neg c4]
       have c4':¬ j3+1+k2=b.size:=by simpa using c4
       refine wpS_bind (ag (by assumption) ?_)
       have N5:=oneA N2 (by assumption) (fun j q1 q2=>k23 j q1 (by lia))
       by_cases c5:(i3+1+1 == a.size)=true
       ·rw[if_pos c5]
        exact wpS_pure ⟨L4,.inl ⟨_,rfl,endA N5 (by simpa using c5)⟩⟩
       rw[if_neg c5]
       have c5':¬ i3+1+1=a.size:=by simpa using c5
       have N5':MLo O a b _ (i3+1) _:=⟨N5,by lia,by lia⟩
       by_cases c6:(decide (k<7) && decide (k2<7))=true
       ·rw[if_pos c6]
        exact wpS_pure ⟨L4,.inr ⟨_,_,_,_,_,_,rfl,N5',by rw[Array.size_push];rw[Array.size_append,Array.size_push];lia⟩⟩
       ·rw[if_neg c6]
        exact wpS_pure ⟨L4,_,_,_,_,_,_,rfl,N5',by rw[Array.size_push];rw[Array.size_append,Array.size_push];lia⟩
      ·rw[if_neg hk0]
       have e0:k2=0:=by lia
       skip
       refine wpS_bind (ag (by assumption) ?_)
       have N5:=oneA N (by assumption) (fun j q1 q2=>k23 j (by lia) (by lia))
       by_cases c5:(i3+1+1 == a.size)=true
       ·rw[if_pos c5]
        exact wpS_pure ⟨L4,.inl ⟨_,rfl,endA N5 (by simpa using c5)⟩⟩
       rw[if_neg c5]
       have c5':¬ i3+1+1=a.size:=by simpa using c5
       have N5':MLo O a b _ (i3+1) _:=⟨N5,by lia,by lia⟩
       by_cases c6:(decide (k<7) && decide (k2<7))=true
       ·rw[if_pos c6]
        exact wpS_pure ⟨L4,.inr ⟨_,_,_,_,_,_,rfl,N5',by rw[Array.size_push];rw[Array.size_push];lia⟩⟩
       ·rw[if_neg c6]
        exact wpS_pure ⟨L4,_,_,_,_,_,_,rfl,N5',by rw[Array.size_push];rw[Array.size_push];lia⟩
    ·rw[if_neg hmg]
     refine wpS_bind (bS L3 fun st4 L4=>?_)
     refine wpS_bind (ag M3.hb ?_)
     refine wpS_bind (b6 (O:=O) (L4.kind.trans hk) (rb.ok _ (by lia) M3.hb) (ra.sub (by lia) (by lia)) (by lia) fun k k1 k2 k3=>?_)
     have hk4:i3+k+1≤a.size:=by
      rcases Nat.lt_or_ge (i3+k) a.size with z | z
      ·assumption
      ·have q:=k2 (a.size-1) (by lia) (by lia)
       have q2:=hl j3 M3.hb
       unfold Cmp.le at q
       rw[q] at q2;cases q2
     dsimp only
     by_cases hk0:k>0
     ·rw[if_pos hk0]
      have N:=manyA (k:=k) M3.m M3.hb k2
      by_cases c4:(i3+k+1 == a.size)=true
      ·rw[if_pos c4]
       exact wpS_pure ⟨L4,.inl ⟨_,rfl,endA N (by simpa using c4)⟩⟩
      rw[if_neg c4]
      have c4':¬ i3+k+1=a.size:=by simpa using c4
      rw[if_neg (by simp;lia)]
      have ho4:out.size+1≤(o3++a.extract i3 (i3+k)).size:=by rw[Array.size_append];lia
      have hlt:∀ i,i3+k≤i→i<a.size→O.r (G b j3) (G a i)=true:=fun i q1 q2=>k3 i q1 (by lia)
      have hi4:i3+k+1<a.size:=by lia
      clear hk4 c4 c4' k1 k2 k3
      revert ho4 hlt hi4 N
      generalize o3++a.extract i3 (i3+k)=o4
      generalize i3+k=i4
      intro M4 ho4 hlt hi4
      refine wpS_bind (ag M3.hb ?_)
      have N:=oneB M4 M3.hb fun j q1 q2=>Cmp.le_of_lt (hlt j q1 q2)
      by_cases c3:(j3+1 == b.size)=true
      ·rw[if_pos c3]
       exact wpS_pure ⟨L4,.inl ⟨_,rfl,endB N (by simpa using c3)⟩⟩
      rw[if_neg c3]
      have c3':¬ j3+1=b.size:=by simpa using c3
      have hj3:=M3.hb
      refine wpS_bind (ag (by lia) ?_)
      refine wpS_bind (a6 (O:=O) (L4.kind.trans hk) (ra.ok _ (by lia) (by lia)) (rb.sub (by lia) (by lia)) (by lia) fun k2 k21 k22 k23=>?_)
      dsimp only
      by_cases hk0:k2>0
      ·rw[if_pos hk0]
       have N2:=manyB (k:=k2) N (by lia) k22
       by_cases c4:(j3+1+k2 == b.size)=true
       ·rw[if_pos c4]
        exact wpS_pure ⟨L4,.inl ⟨_,rfl,endB N2 (by simpa using c4)⟩⟩
       rw[if_neg c4]
       have c4':¬ j3+1+k2=b.size:=by simpa using c4
       refine wpS_bind (ag (by lia) ?_)
       have N5:=oneA N2 (by lia) (fun j q1 q2=>k23 j q1 (by lia))
       by_cases c5:(i4+1+1 == a.size)=true
       ·rw[if_pos c5]
        exact wpS_pure ⟨L4,.inl ⟨_,rfl,endA N5 (by simpa using c5)⟩⟩
       rw[if_neg c5]
       have c5':¬ i4+1+1=a.size:=by simpa using c5
       have N5':MLo O a b _ (i4+1) _:=⟨N5,by lia,by lia⟩
       by_cases c6:(decide (k<7) && decide (k2<7))=true
       ·rw[if_pos c6]
        exact wpS_pure ⟨L4,.inr ⟨_,_,_,_,_,_,rfl,N5',by rw[Array.size_push];rw[Array.size_append,Array.size_push];lia⟩⟩
       ·rw[if_neg c6]
        exact wpS_pure ⟨L4,_,_,_,_,_,_,rfl,N5',by rw[Array.size_push];rw[Array.size_append,Array.size_push];lia⟩
      ·rw[if_neg hk0]
       have e0:k2=0:=by lia
       skip
       refine wpS_bind (ag (by lia) ?_)
       have N5:=oneA N (by lia) (fun j q1 q2=>k23 j (by lia) (by lia))
       by_cases c5:(i4+1+1 == a.size)=true
       ·rw[if_pos c5]
        exact wpS_pure ⟨L4,.inl ⟨_,rfl,endA N5 (by simpa using c5)⟩⟩
       rw[if_neg c5]
       have c5':¬ i4+1+1=a.size:=by simpa using c5
       have N5':MLo O a b _ (i4+1) _:=⟨N5,by lia,by lia⟩
       by_cases c6:(decide (k<7) && decide (k2<7))=true
       ·rw[if_pos c6]
        exact wpS_pure ⟨L4,.inr ⟨_,_,_,_,_,_,rfl,N5',by rw[Array.size_push];rw[Array.size_push];lia⟩⟩
       ·rw[if_neg c6]
        exact wpS_pure ⟨L4,_,_,_,_,_,_,rfl,N5',by rw[Array.size_push];rw[Array.size_push];lia⟩
     ·rw[if_neg hk0]
      have e0:k=0:=by lia
      have M4:=M3.m
      have hi4:=M3.ha
      have ho4:=h3
      have hlt:∀ i,i3≤i→i<a.size→O.r (G b j3) (G a i)=true:=fun i q1 q2=>k3 i (by lia) (by lia)
      clear hk4 k1 k2 k3 e0 hk0
      refine wpS_bind (ag M3.hb ?_)
      have N:=oneB M4 M3.hb fun j q1 q2=>Cmp.le_of_lt (hlt j q1 q2)
      by_cases c3:(j3+1 == b.size)=true
      ·rw[if_pos c3]
       exact wpS_pure ⟨L4,.inl ⟨_,rfl,endB N (by simpa using c3)⟩⟩
      rw[if_neg c3]
      have c3':¬ j3+1=b.size:=by simpa using c3
      have hj3:=M3.hb
      refine wpS_bind (ag (by assumption) ?_)
      refine wpS_bind (a6 (O:=O) (L4.kind.trans hk) (ra.ok _ (by lia) (by assumption)) (rb.sub (by lia) (by lia)) (by lia) fun k2 k21 k22 k23=>?_)
      dsimp only
      by_cases hk0:k2>0
      ·rw[if_pos hk0]
       have N2:=manyB (k:=k2) N (by assumption) k22
       by_cases c4:(j3+1+k2 == b.size)=true
       ·rw[if_pos c4]
        exact wpS_pure ⟨L4,.inl ⟨_,rfl,endB N2 (by simpa using c4)⟩⟩
       rw[if_neg c4]
       have c4':¬ j3+1+k2=b.size:=by simpa using c4
       refine wpS_bind (ag (by assumption) ?_)
       have N5:=oneA N2 (by assumption) (fun j q1 q2=>k23 j q1 (by lia))
       by_cases c5:(i3+1+1 == a.size)=true
       ·rw[if_pos c5]
        exact wpS_pure ⟨L4,.inl ⟨_,rfl,endA N5 (by simpa using c5)⟩⟩
       rw[if_neg c5]
       have c5':¬ i3+1+1=a.size:=by simpa using c5
       have N5':MLo O a b _ (i3+1) _:=⟨N5,by lia,by lia⟩
       by_cases c6:(decide (k<7) && decide (k2<7))=true
       ·rw[if_pos c6]
        exact wpS_pure ⟨L4,.inr ⟨_,_,_,_,_,_,rfl,N5',by rw[Array.size_push];rw[Array.size_append,Array.size_push];lia⟩⟩
       ·rw[if_neg c6]
        exact wpS_pure ⟨L4,_,_,_,_,_,_,rfl,N5',by rw[Array.size_push];rw[Array.size_append,Array.size_push];lia⟩
      ·rw[if_neg hk0]
       have e0:k2=0:=by lia
       skip
       refine wpS_bind (ag (by assumption) ?_)
       have N5:=oneA N (by assumption) (fun j q1 q2=>k23 j (by lia) (by lia))
       by_cases c5:(i3+1+1 == a.size)=true
       ·rw[if_pos c5]
        exact wpS_pure ⟨L4,.inl ⟨_,rfl,endA N5 (by simpa using c5)⟩⟩
       rw[if_neg c5]
       have c5':¬ i3+1+1=a.size:=by simpa using c5
       have N5':MLo O a b _ (i3+1) _:=⟨N5,by lia,by lia⟩
       by_cases c6:(decide (k<7) && decide (k2<7))=true
       ·rw[if_pos c6]
        exact wpS_pure ⟨L4,.inr ⟨_,_,_,_,_,_,rfl,N5',by rw[Array.size_push];rw[Array.size_push];lia⟩⟩
       ·rw[if_neg c6]
        exact wpS_pure ⟨L4,_,_,_,_,_,_,rfl,N5',by rw[Array.size_push];rw[Array.size_push];lia⟩
end
end TS
set_option autoImplicit false
namespace TS
open PySem PyProof.Rows
section
variable {κ:SortKind}{prog:Program}{w:World}{A:Around}{E:Value→Shared→Prop}{s:Shared}{O:Cmp κ prog w A s}
theorem lN (a b:Array Keyed):iq a b=(do
 rule "list.sort.merge-hi"
 let total:=a.size+b.size
 let done (out:Array Keyed) (na nb:Nat):=a.extract 0 na++b.extract 0 nb++out.reverse
 let firstOfB (out:Array Keyed) (na nb:Nat):=b.extract 0 nb++a.extract 0 na++out.reverse
 let mut na:=a.size-1
 let mut nb:=b.size
 let mut out:Array Keyed:=#[←elem' a na]
 if na == 0 then return done out na nb
 if nb == 1 then return firstOfB out na nb
 let mut minGallop:=gallopOf (←get)
 for _ in [0:total] do
  let mut acount:=0
  let mut bcount:=0
  for _ in [0:total] do
   let some aWins ←lt' (←elem' b (nb-1)) (←elem' a (na-1)) | return done out na nb
   if aWins then
    na:=na-1;out:=out.push (←elem' a na);acount:=acount+1;bcount:=0
    if na == 0 then return done out na nb
    if acount≥minGallop then break
   else
    nb:=nb-1;out:=out.push (←elem' b nb);bcount:=bcount+1;acount:=0
    if nb == 1 then return firstOfB out na nb
    if bcount≥minGallop then break
  rule "list.sort.gallop"
  minGallop:=minGallop+1
  for _ in [0:total] do
   if minGallop>1 then minGallop:=minGallop-1
   bj minGallop
   let some at_ ←cB false (←elem' b (nb-1)) a 0 na (na-1) | return done out na nb
   let k:=na-at_
   acount:=k
   if k>0 then
    out:=out++(a.extract at_ na).reverse;na:=at_
    if na == 0 then return done out na nb
   nb:=nb-1;out:=out.push (←elem' b nb)
   if nb == 1 then return firstOfB out na nb
   let some at_ ←cB true (←elem' a (na-1)) b 0 nb (nb-1) | return done out na nb
   let k:=nb-at_
   bcount:=k
   if k>0 then
    out:=out++(b.extract at_ nb).reverse;nb:=at_
    if nb == 1 then return firstOfB out na nb
    if nb == 0 then return done out na nb
   na:=na-1;out:=out.push (←elem' a na)
   if na == 0 then return done out na nb
   if acount<7 && bcount<7 then break
  minGallop:=minGallop+1
  bj minGallop
 unsupported "internal:list.sort.merge-bound"):=rfl
theorem jg {xs:Array Keyed}{i:Nat}(h:i<xs.size):(xs.toList.take (i+1)).reverse=G xs i :: (xs.toList.take i).reverse:=by
 have e:xs.toList[i]? = some (G xs i):=by rw[Array.getElem?_toList];exact du h
 rw[take_add_one,e,List.reverse_append]
 rfl
theorem cI {xs:Array Keyed}{i:Nat}{x:Keyed}(h:x∈(xs.toList.take i).reverse):∃ j,j<i∧j<xs.size∧x=G xs j:=by
 have h:=mem_reverse.mp h
 obtain⟨n,hn,e⟩:=List.getElem_of_mem h
 simp only[length_take,Array.length_toList] at hn
 refine⟨n,by lia,by lia,?_⟩
 rw[List.getElem_take] at e
 have e2:xs.toList[n]? = some (G xs n):=by rw[Array.getElem?_toList];exact du (by lia)
 rw[getElem?_eq_getElem (by simp;lia)] at e2
 rw[←e];exact Option.some.inj e2
theorem eX (xs:Array Keyed)(i:Nat):(xs.extract 0 i).toList=xs.toList.take i:=by rw[ce];simp
theorem gX (xs:Array Keyed)(i j:Nat)(h:i≤j):(xs.toList.take j).reverse=(xs.extract i j).reverse.toList++(xs.toList.take i).reverse:=by
 rw[Array.toList_reverse,ce,←List.reverse_append]
 congr 1
 rw[←List.drop_take]
 have:=take_append_drop i (xs.toList.take j)
 rw[List.take_take,Nat.min_eq_left h] at this
 exact this.symm
theorem lP {xs:Array Keyed}{i j:Nat}{x:Keyed}(h:x∈(xs.extract i j).reverse.toList):∃ k,i≤k∧k<j∧k<xs.size∧x=G xs k:=by
 rw[Array.toList_reverse,mem_reverse,ce] at h
 obtain⟨k,h1,h2,h3,h4⟩:=bY h
 exact⟨k,h1,by lia,h3,h4⟩
theorem nu {xs:Array Keyed}(h:Run O xs 0 xs.size):xs.toList.reverse.Pairwise (fun x y=>O.le y x):=List.pairwise_reverse.mpr (gY h)
abbrev geO (O:Cmp κ prog w A s):Keyed→Keyed→Prop:=fun x y=>O.le y x
structure MHi (O:Cmp κ prog w A s)(a b out:Array Keyed)(na nb:Nat):Prop where
 m:Mrg (geO O) (a.toList++b.toList) out.toList (a.toList.take na).reverse (b.toList.take nb).reverse
 ha:1≤na
 hb:2≤nb
 ha2:na≤a.size
 hb2:nb≤b.size
variable {a b out':Array Keyed}{na nb k:Nat}
theorem MHi.le (M:MHi O a b out' na nb):out'.size+3≤a.size+b.size:=by
 have:=M.m.len
 simp only[Array.length_toList,List.length_reverse,length_take,length_append] at this
 have:=M.ha;have:=M.hb;have:=M.ha2;have:=M.hb2
 lia
theorem lW {all res:List Keyed}(g:dJ (geO O) all res):dJ O.le all res.reverse:=⟨(reverse_perm res).trans g.1,List.pairwise_reverse.mpr g.2⟩
theorem kH {st:SortSt}{Q:Array Keyed→SortSt→Prop}(hk:kindOf st=κ)(ra:Run O a 0 a.size)(rb:Run O b 0 b.size)(ha:0<a.size)(hb:0<b.size)(h0:∀ i,i<a.size→O.r (G b 0) (G a i)=true)
 (hl:∀ i,i<b.size→O.r (G b i) (G a (a.size-1))=true) (h:∀ res st',dI st st'→dJ O.le (a.toList++b.toList) res.toList→Q res st'):wpS (model prog w) A E s (iq a b) Q st:=by
 have endA:∀ {out:Array Keyed} {na nb:Nat},Mrg (geO O) (a.toList++b.toList) out.toList (a.toList.take na).reverse (b.toList.take nb).reverse→na=0→dJ O.le (a.toList++b.toList) (a.extract 0 na++b.extract 0 nb++out.reverse).toList:=by
  intro out na nb M e
  subst e
  rw[Array.toList_append,Array.toList_append,eX,eX,Array.toList_reverse,List.take_zero,nil_append]
  have g:=lW (Mrg.doneB (by simpa using M))
  simpa using g
 have endB:∀ {out:Array Keyed} {na nb:Nat},Mrg (geO O) (a.toList++b.toList) out.toList (a.toList.take na).reverse (b.toList.take nb).reverse→nb=1→dJ O.le (a.toList++b.toList) (b.extract 0 nb++a.extract 0 na++out.reverse).toList:=by
  intro out na nb M e
  subst e
  rw[Array.toList_append,Array.toList_append,eX,eX,Array.toList_reverse]
  have sw:dJ (geO O) (a.toList++b.toList) (out.toList++(a.toList.take na).reverse++(b.toList.take 1).reverse):=by
   refine⟨M.perm,bD (bD M.srt M.sa fun x hx y hy=>M.lo x hx y (mem_append_left _ hy)) M.sb fun x hx y hy=>?_⟩
   rcases mem_append.mp hx with z | z
   ·exact M.lo x z y (mem_append_right _ hy)
   ·obtain⟨i,_,hi,rfl⟩:=cI z
    obtain⟨j,hj,_,rfl⟩:=cI hy
    have:j=0:=by lia
    subst this
    exact Cmp.le_of_lt (h0 i hi)
  have g:=lW sw
  simpa[append_assoc] using g
 have oneA:∀ {out:Array Keyed} {na nb:Nat},Mrg (geO O) (a.toList++b.toList) out.toList (a.toList.take (na+1)).reverse (b.toList.take nb).reverse→na<a.size→(∀ j,j<nb→j<b.size→O.le (G b j) (G a na)) →
  Mrg (geO O) (a.toList++b.toList) (out.push (G a na)).toList (a.toList.take na).reverse (b.toList.take nb).reverse:=by
  intro out na nb M hna hle
  rw[jg hna] at M
  rw[Array.toList_push]
  refine M.moveA (t:=[G a na]) fun x hx y hy=>?_
  have e:x=G a na:=by simpa using hx
  subst e
  obtain⟨j,h1,h2,rfl⟩:=cI hy
  exact hle j h1 h2
 have oneB:∀ {out:Array Keyed} {na nb:Nat},Mrg (geO O) (a.toList++b.toList) out.toList (a.toList.take na).reverse (b.toList.take (nb+1)).reverse→nb<b.size→(∀ j,j<na→j<a.size→O.le (G a j) (G b nb)) →
  Mrg (geO O) (a.toList++b.toList) (out.push (G b nb)).toList (a.toList.take na).reverse (b.toList.take nb).reverse:=by
  intro out na nb M hnb hle
  rw[jg hnb] at M
  rw[Array.toList_push]
  refine M.moveB (t:=[G b nb]) fun x hx y hy=>?_
  have e:x=G b nb:=by simpa using hx
  subst e
  obtain⟨j,h1,h2,rfl⟩:=cI hy
  exact hle j h1 h2
 have manyA:∀ {out:Array Keyed} {na nb at_:Nat},Mrg (geO O) (a.toList++b.toList) out.toList (a.toList.take na).reverse (b.toList.take nb).reverse→at_≤na→1≤nb→nb≤b.size→(∀ i,at_≤i→i<na→O.r (G b (nb-1)) (G a i)=true) →
  Mrg (geO O) (a.toList++b.toList) (out++(a.extract at_ na).reverse).toList (a.toList.take at_).reverse (b.toList.take nb).reverse:=by
  intro out na nb at_ M hat h1 h2 hle
  rw[gX a at_ na hat] at M
  rw[Array.toList_append]
  refine M.moveA fun x hx y hy=>?_
  obtain⟨i,q1,q2,q3,rfl⟩:=lP hx
  obtain⟨j,q4,q5,rfl⟩:=cI hy
  exact Cmp.le_trans (rb.srt j (nb-1) (by lia) (by lia) (by lia)) (Cmp.le_of_lt (hle i q1 q2))
 have manyB:∀ {out:Array Keyed} {na nb at_:Nat},Mrg (geO O) (a.toList++b.toList) out.toList (a.toList.take na).reverse (b.toList.take nb).reverse→at_≤nb→1≤na→na≤a.size→(∀ i,at_≤i→i<nb→O.le (G a (na-1)) (G b i)) →
  Mrg (geO O) (a.toList++b.toList) (out++(b.extract at_ nb).reverse).toList (a.toList.take na).reverse (b.toList.take at_).reverse:=by
  intro out na nb at_ M hat h1 h2 hle
  rw[gX b at_ nb hat] at M
  rw[Array.toList_append]
  refine M.moveB fun x hx y hy=>?_
  obtain⟨i,q1,q2,q3,rfl⟩:=lP hx
  obtain⟨j,q4,q5,rfl⟩:=cI hy
  exact Cmp.le_trans (ra.srt j (na-1) (by lia) (by lia) (by lia)) (hle i q1 q2)
 rw[lN]
 refine wpS_bind (wpS_lift (wpAny_rule ⟨rfl,?_⟩))
 dsimp only
 refine wpS_bind (ag (by lia) ?_)
 have M0:Mrg (geO O) (a.toList++b.toList) (#[]:Array Keyed).toList (a.toList.take (a.size-1+1)).reverse (b.toList.take b.size).reverse:=by
  have e1:a.toList.take (a.size-1+1)=a.toList:=take_of_length_le (by simp;lia)
  have e2:b.toList.take b.size=b.toList:=take_of_length_le (by simp)
  rw[e1,e2]
  refine⟨?_,by simp,nu ra,nu rb,fun x hx=>by simp at hx⟩
  simp only[nil_append]
  exact List.Perm.append (reverse_perm _) (reverse_perm _)
 have M1:Mrg (geO O) (a.toList++b.toList) (#[G a (a.size-1)]:Array Keyed).toList (a.toList.take (a.size-1)).reverse (b.toList.take b.size).reverse :=
  oneA (out:=#[]) M0 (by lia) fun j h1 h2=>Cmp.le_of_lt (hl j h2)
 by_cases c1:(a.size-1 == 0)=true
 ·rw[if_pos c1]
  exact wpS_pure (h _ _ (.refl _) (endA M1 (by simpa using c1)))
 rw[if_neg c1]
 by_cases c2:(b.size == 1)=true
 ·rw[if_pos c2]
  exact wpS_pure (h _ _ (.refl _) (endB M1 (by simpa using c2)))
 rw[if_neg c2]
 have c1':¬ a.size-1=0:=by simpa using c1
 have c2':¬ b.size=1:=by simpa using c2
 refine wpS_bind (wpS_get ?_)
 refine wpS_bind (wpS_mono (wpS_forRange
  (I:=fun x c st'=>dI st st'∧∃ out na nb mg,c=(none,na,nb,out,mg)∧MHi O a b out na nb∧x+1≤out.size)
  (Q:=fun c st'=>dI st st'∧∃ res,c.1=some res∧dJ O.le (a.toList++b.toList) res.toList) ?step ?fin ⟨.refl _,_,_,_,_,rfl,⟨M1,by lia,by lia,by lia,by lia⟩,by simp⟩) ?post)
 case post =>
  rintro⟨c1,c2⟩ st' ⟨L,res,e,g⟩
  have e':c1=some res:=e
  subst e'
  exact wpS_pure (h res st' L g)
 case fin =>
  rintro c st' ⟨L,out,na,nb,mg,rfl,M,hx⟩
  have:=M.le
  exfalso;lia
 case step =>
  rintro x c st' _ hxt ⟨L,out,na,nb,mg,rfl,M,hx⟩
  dsimp only
  refine wpS_bind (wpS_mono (wpS_forRange
   (I:=fun y c st'=>dI st st'∧∃ o2 na nb ac bc,c=(none,na,nb,o2,ac,bc)∧MHi O a b o2 na nb∧out.size+y≤o2.size)
   (Q:=fun c st'=>dI st st'∧((∃ res,c.1=some res∧dJ O.le (a.toList++b.toList) res.toList)∨∃ o2 na nb ac bc,c=(none,na,nb,o2,ac,bc)∧MHi O a b o2 na nb∧out.size+1≤o2.size)) ?s1 ?f1 ⟨L,out,na,nb,0,0,rfl,M,by lia⟩) ?p1)
  case f1 =>
   rintro c st2 ⟨L2,o2,i2,j2,ac,bc,rfl,M2,h2⟩
   exact⟨L2,.inr ⟨o2,i2,j2,ac,bc,rfl,M2,by lia⟩⟩
  case s1 =>
   rintro y c st2 _ hy ⟨L2,o2,i2,j2,ac,bc,rfl,M2,h2⟩
   dsimp only
   have hk2:kindOf st2=κ:=L2.kind.trans hk
   have b1:=M2.ha;have b2:=M2.hb;have b3:=M2.ha2;have b4:=M2.hb2
   refine wpS_bind (ag (by lia) (wpS_bind (ag (by lia) ?_)))
   refine wpS_bind (O.ask hk2 (rb.ok _ (by lia) (by lia)) (ra.ok _ (by lia) (by lia)) ?_)
   have ei:i2-1+1=i2:=by lia
   have ej:j2-1+1=j2:=by lia
   cases hw:O.r (G b (j2-1)) (G a (i2-1)) with
   | true =>
     dsimp only
     rw[if_pos rfl]
     refine wpS_bind (ag (by lia) ?_)
     have N:=oneA (na:=i2-1) (by rw[ei];exact M2.m) (by lia) fun j q1 q2=>Cmp.le_trans (rb.srt j (j2-1) (by lia) (by lia) (by lia)) (Cmp.le_of_lt hw)
     by_cases c3:(i2-1 == 0)=true
     ·rw[if_pos c3]
      exact wpS_pure ⟨L2,.inl ⟨_,rfl,endA N (by simpa using c3)⟩⟩
     rw[if_neg c3]
     have c3':¬ i2-1=0:=by simpa using c3
     have N':MHi O a b (o2.push (G a (i2-1))) (i2-1) j2:=⟨N,by lia,by assumption,by lia,by assumption⟩
     split
     ·exact wpS_pure ⟨L2,.inr ⟨_,_,_,_,_,rfl,N',by rw[Array.size_push];lia⟩⟩
     ·exact wpS_pure ⟨L2,_,_,_,_,_,rfl,N',by rw[Array.size_push];lia⟩
   | false =>
     dsimp only
     rw[if_neg Bool.false_ne_true]
     refine wpS_bind (ag (by lia) ?_)
     have N:=oneB (nb:=j2-1) (by rw[ej];exact M2.m) (by lia) fun j q1 q2=>Cmp.le_trans (ra.srt j (i2-1) (by lia) (by lia) (by lia)) (Cmp.le_of_not hw)
     by_cases c3:(j2-1 == 1)=true
     ·rw[if_pos c3]
      exact wpS_pure ⟨L2,.inl ⟨_,rfl,endB N (by simpa using c3)⟩⟩
     rw[if_neg c3]
     have c3':¬ j2-1=1:=by simpa using c3
     have N':MHi O a b (o2.push (G b (j2-1))) i2 (j2-1):=⟨N,by assumption,by lia,by assumption,by lia⟩
     split
     ·exact wpS_pure ⟨L2,.inr ⟨_,_,_,_,_,rfl,N',by rw[Array.size_push];lia⟩⟩
     ·exact wpS_pure ⟨L2,_,_,_,_,_,rfl,N',by rw[Array.size_push];lia⟩
  case p1 =>
   rintro⟨c1,c2⟩ st2 ⟨L2,hc⟩
   rcases hc with⟨res,e,g⟩ | ⟨o2,i2,j2,ac,bc,e,M2,h2⟩
   ·have e':c1=some res:=e
    subst e'
    exact wpS_pure ⟨L2,res,rfl,g⟩
   cases e
   dsimp only
   refine wpS_bind (wpS_lift (wpAny_rule ⟨rfl,?_⟩))
   refine wpS_bind (wpS_mono (wpS_forRange
    (I:=fun y c st'=>dI st st'∧∃ o3 na nb mg ac bc,c=(none,na,nb,o3,mg,ac,bc)∧MHi O a b o3 na nb∧out.size+1≤o3.size)
    (Q:=fun c st'=>dI st st'∧((∃ res,c.1=some res∧dJ O.le (a.toList++b.toList) res.toList)∨∃ o3 na nb mg ac bc,c=(none,na,nb,o3,mg,ac,bc)∧MHi O a b o3 na nb∧out.size+1≤o3.size)) ?s2 ?f2 ⟨L2,o2,i2,j2,_,ac,bc,rfl,M2,h2⟩) ?p2)
   case f2 =>
    rintro c st3 ⟨L3,o3,i3,j3,mg3,ac3,bc3,rfl,M3,h3⟩
    exact⟨L3,.inr ⟨o3,i3,j3,mg3,ac3,bc3,rfl,M3,h3⟩⟩
   case p2 =>
    rintro⟨c1,c2⟩ st3 ⟨L3,hc⟩
    rcases hc with⟨res,e,g⟩ | ⟨o3,i3,j3,mg3,ac3,bc3,e,M3,h3⟩
    ·have e':c1=some res:=e
     subst e'
     exact wpS_pure ⟨L3,res,rfl,g⟩
    cases e
    dsimp only
    exact wpS_bind (bS L3 fun st4 L4=>wpS_pure ⟨L4,_,_,_,_,rfl,M3,by lia⟩)
   case s2 =>
    rintro y c st3 _ hy ⟨L3,o3,i3,j3,mg3,ac3,bc3,rfl,M3,h3⟩
    dsimp only
    have b1:=M3.ha;have b2:=M3.hb;have b3:=M3.ha2;have b4:=M3.hb2
    have ej:j3-1+1=j3:=by lia
    by_cases hmg:mg3>1
    ·rw[if_pos hmg]
     refine wpS_bind (bS L3 fun st4 L4=>?_)
     refine wpS_bind (ag (by lia) ?_)
     refine wpS_bind (b6 (O:=O) (base:=0) (L4.kind.trans hk) (rb.ok _ (by lia) (by lia)) (ra.sub (by lia) (by lia)) (by lia) fun k k1 k2 k3=>?_)
     dsimp only
     by_cases hk0:i3-k>0
     ·rw[if_pos hk0]
      have M4:=manyA (at_:=k) M3.m (by assumption) (by lia) (by assumption) fun i q1 q2=>k3 i (by lia) (by lia)
      by_cases c4:(k == 0)=true
      ·rw[if_pos c4]
       exact wpS_pure ⟨L4,.inl ⟨_,rfl,endA M4 (by simpa using c4)⟩⟩
      rw[if_neg c4]
      have c4':¬ k=0:=by simpa using c4
      have ho4:out.size+1≤(o3++(a.extract k i3).reverse).size:=by rw[Array.size_append];lia
      have hle4:∀ j,j<k→j<a.size→O.le (G a j) (G b (j3-1)):=fun j q1 q2=>k2 j (by lia) (by lia)
      refine wpS_bind (ag (by lia) ?_)
      have N:=oneB (nb:=j3-1) (by rw[ej];exact M4) (by lia) fun j q1 q2=>hle4 j q1 q2
      by_cases c3:(j3-1 == 1)=true
      ·rw[if_pos c3]
       exact wpS_pure ⟨L4,.inl ⟨_,rfl,endB N (by simpa using c3)⟩⟩
      rw[if_neg c3]
      have c3':¬ j3-1=1:=by simpa using c3
      have ei:k-1+1=k:=by lia
      refine wpS_bind (ag (by lia) ?_)
      refine wpS_bind (a6 (O:=O) (base:=0) (L4.kind.trans hk) (ra.ok _ (by lia) (by lia)) (rb.sub (by lia) (by lia)) (by lia) fun k2 k21 k22 k23=>?_)
      have kpos:1≤k2:=by
       rcases Nat.lt_or_ge 0 k2 with z | z
       ·assumption
       ·have q:=k23 0 (by lia) (by lia)
        have q2:=h0 (k-1) (by lia)
        unfold Cmp.le at q
        rw[q] at q2;cases q2
      dsimp only
      by_cases hk0:j3-1-k2>0
      ·rw[if_pos hk0]
       have N2:=manyB (at_:=k2) N (by assumption) (by lia) (by lia) fun i q1 q2=>k23 i (by lia) (by lia)
       by_cases c4:(k2 == 1)=true
       ·rw[if_pos c4]
        exact wpS_pure ⟨L4,.inl ⟨_,rfl,endB N2 (by simpa using c4)⟩⟩
       rw[if_neg c4]
       have c4':¬ k2=1:=by simpa using c4
       rw[if_neg (by simp;lia)]
       refine wpS_bind (ag (by lia) ?_)
       have N5:=oneA (na:=k-1) (by rw[ei];exact N2) (by lia) (fun j q1 q2=>Cmp.le_of_lt (k22 j (by lia) (by lia)))
       by_cases c5:(k-1 == 0)=true
       ·rw[if_pos c5]
        exact wpS_pure ⟨L4,.inl ⟨_,rfl,endA N5 (by simpa using c5)⟩⟩
       rw[if_neg c5]
       have c5':¬ k-1=0:=by simpa using c5
       have N5':MHi O a b _ (k-1) _:=⟨N5,by lia,by lia,by lia,by lia⟩
       by_cases c6:(decide (i3-k<7) && decide (j3-1-k2<7))=true
       ·rw[if_pos c6]
        exact wpS_pure ⟨L4,.inr ⟨_,_,_,_,_,_,rfl,N5',by rw[Array.size_push];rw[Array.size_append,Array.size_push];lia⟩⟩
       ·rw[if_neg c6]
        exact wpS_pure ⟨L4,_,_,_,_,_,_,rfl,N5',by rw[Array.size_push];rw[Array.size_append,Array.size_push];lia⟩
      ·rw[if_neg hk0]
       refine wpS_bind (ag (by lia) ?_)
       have N5:=oneA (na:=k-1) (by rw[ei];exact N) (by lia) (fun j q1 q2=>Cmp.le_of_lt (k22 j (by lia) (by lia)))
       by_cases c5:(k-1 == 0)=true
       ·rw[if_pos c5]
        exact wpS_pure ⟨L4,.inl ⟨_,rfl,endA N5 (by simpa using c5)⟩⟩
       rw[if_neg c5]
       have c5':¬ k-1=0:=by simpa using c5
       have N5':MHi O a b _ (k-1) _:=⟨N5,by lia,by lia,by lia,by lia⟩
       by_cases c6:(decide (i3-k<7) && decide (j3-1-k2<7))=true
       ·rw[if_pos c6]
        exact wpS_pure ⟨L4,.inr ⟨_,_,_,_,_,_,rfl,N5',by rw[Array.size_push];rw[Array.size_push];lia⟩⟩
       ·rw[if_neg c6]
        exact wpS_pure ⟨L4,_,_,_,_,_,_,rfl,N5',by rw[Array.size_push];rw[Array.size_push];lia⟩
     ·rw[if_neg hk0]
      have ek:k=i3:=by lia
      have M4:=M3.m
      have ho4:=h3
      have hle4:∀ j,j<i3→j<a.size→O.le (G a j) (G b (j3-1)):=fun j q1 q2=>k2 j (by lia) (by lia)
      refine wpS_bind (ag (by lia) ?_)
      have N:=oneB (nb:=j3-1) (by rw[ej];exact M4) (by lia) fun j q1 q2=>hle4 j q1 q2
      by_cases c3:(j3-1 == 1)=true
      ·rw[if_pos c3]
       exact wpS_pure ⟨L4,.inl ⟨_,rfl,endB N (by simpa using c3)⟩⟩
      rw[if_neg c3]
      have c3':¬ j3-1=1:=by simpa using c3
      have ei:i3-1+1=i3:=by lia
      refine wpS_bind (ag (by lia) ?_)
      refine wpS_bind (a6 (O:=O) (base:=0) (L4.kind.trans hk) (ra.ok _ (by lia) (by lia)) (rb.sub (by lia) (by lia)) (by lia) fun k2 k21 k22 k23=>?_)
      have kpos:1≤k2:=by
       rcases Nat.lt_or_ge 0 k2 with z | z
       ·assumption
       ·have q:=k23 0 (by lia) (by lia)
        have q2:=h0 (i3-1) (by lia)
        unfold Cmp.le at q
        rw[q] at q2;cases q2
      dsimp only
      by_cases hk0:j3-1-k2>0
      ·rw[if_pos hk0]
       have N2:=manyB (at_:=k2) N (by assumption) (by assumption) (by assumption) fun i q1 q2=>k23 i (by lia) (by lia)
       by_cases c4:(k2 == 1)=true
       ·rw[if_pos c4]
        exact wpS_pure ⟨L4,.inl ⟨_,rfl,endB N2 (by simpa using c4)⟩⟩
       rw[if_neg c4]
       have c4':¬ k2=1:=by simpa using c4
       rw[if_neg (by simp;lia)]
       refine wpS_bind (ag (by lia) ?_)
       have N5:=oneA (na:=i3-1) (by rw[ei];exact N2) (by lia) (fun j q1 q2=>Cmp.le_of_lt (k22 j (by lia) (by lia)))
       by_cases c5:(i3-1 == 0)=true
       ·rw[if_pos c5]
        exact wpS_pure ⟨L4,.inl ⟨_,rfl,endA N5 (by simpa using c5)⟩⟩
       rw[if_neg c5]
       have c5':¬ i3-1=0:=by simpa using c5
       have N5':MHi O a b _ (i3-1) _:=⟨N5,by lia,by lia,by lia,by lia⟩
       by_cases c6:(decide (i3-k<7) && decide (j3-1-k2<7))=true
       ·rw[if_pos c6]
        exact wpS_pure ⟨L4,.inr ⟨_,_,_,_,_,_,rfl,N5',by rw[Array.size_push];rw[Array.size_append,Array.size_push];lia⟩⟩
       ·rw[if_neg c6]
        exact wpS_pure ⟨L4,_,_,_,_,_,_,rfl,N5',by rw[Array.size_push];rw[Array.size_append,Array.size_push];lia⟩
      ·rw[if_neg hk0]
       refine wpS_bind (ag (by lia) ?_)
       have N5:=oneA (na:=i3-1) (by rw[ei];exact N) (by lia) (fun j q1 q2=>Cmp.le_of_lt (k22 j (by lia) (by lia)))
       by_cases c5:(i3-1 == 0)=true
       ·rw[if_pos c5]
        exact wpS_pure ⟨L4,.inl ⟨_,rfl,endA N5 (by simpa using c5)⟩⟩
       rw[if_neg c5]
       have c5':¬ i3-1=0:=by simpa using c5
       have N5':MHi O a b _ (i3-1) _:=⟨N5,by lia,by lia,by lia,by lia⟩
       by_cases c6:(decide (i3-k<7) && decide (j3-1-k2<7))=true
       ·rw[if_pos c6]
        exact wpS_pure ⟨L4,.inr ⟨_,_,_,_,_,_,rfl,N5',by rw[Array.size_push];rw[Array.size_push];lia⟩⟩
       ·rw[if_neg c6]
        exact wpS_pure ⟨L4,_,_,_,_,_,_,rfl,N5',by rw[Array.size_push];rw[Array.size_push];lia⟩
    ·rw[if_neg hmg]
     refine wpS_bind (bS L3 fun st4 L4=>?_)
     refine wpS_bind (ag (by lia) ?_)
     refine wpS_bind (b6 (O:=O) (base:=0) (L4.kind.trans hk) (rb.ok _ (by lia) (by lia)) (ra.sub (by lia) (by lia)) (by lia) fun k k1 k2 k3=>?_)
     dsimp only
     by_cases hk0:i3-k>0
     ·rw[if_pos hk0]
      have M4:=manyA (at_:=k) M3.m (by assumption) (by lia) (by assumption) fun i q1 q2=>k3 i (by lia) (by lia)
      by_cases c4:(k == 0)=true
      ·rw[if_pos c4]
       exact wpS_pure ⟨L4,.inl ⟨_,rfl,endA M4 (by simpa using c4)⟩⟩
      rw[if_neg c4]
      have c4':¬ k=0:=by simpa using c4
      have ho4:out.size+1≤(o3++(a.extract k i3).reverse).size:=by rw[Array.size_append];lia
      have hle4:∀ j,j<k→j<a.size→O.le (G a j) (G b (j3-1)):=fun j q1 q2=>k2 j (by lia) (by lia)
      refine wpS_bind (ag (by lia) ?_)
      have N:=oneB (nb:=j3-1) (by rw[ej];exact M4) (by lia) fun j q1 q2=>hle4 j q1 q2
      by_cases c3:(j3-1 == 1)=true
      ·rw[if_pos c3]
       exact wpS_pure ⟨L4,.inl ⟨_,rfl,endB N (by simpa using c3)⟩⟩
      rw[if_neg c3]
      have c3':¬ j3-1=1:=by simpa using c3
      have ei:k-1+1=k:=by lia
      refine wpS_bind (ag (by lia) ?_)
      refine wpS_bind (a6 (O:=O) (base:=0) (L4.kind.trans hk) (ra.ok _ (by lia) (by lia)) (rb.sub (by lia) (by lia)) (by lia) fun k2 k21 k22 k23=>?_)
      have kpos:1≤k2:=by
       rcases Nat.lt_or_ge 0 k2 with z | z
       ·assumption
       ·have q:=k23 0 (by lia) (by lia)
        have q2:=h0 (k-1) (by lia)
        unfold Cmp.le at q
        rw[q] at q2;cases q2
      dsimp only
      by_cases hk0:j3-1-k2>0
      ·rw[if_pos hk0]
       have N2:=manyB (at_:=k2) N (by assumption) (by lia) (by lia) fun i q1 q2=>k23 i (by lia) (by lia)
       by_cases c4:(k2 == 1)=true
       ·rw[if_pos c4]
        exact wpS_pure ⟨L4,.inl ⟨_,rfl,endB N2 (by simpa using c4)⟩⟩
       rw[if_neg c4]
       have c4':¬ k2=1:=by simpa using c4
       rw[if_neg (by simp;lia)]
       refine wpS_bind (ag (by lia) ?_)
       have N5:=oneA (na:=k-1) (by rw[ei];exact N2) (by lia) (fun j q1 q2=>Cmp.le_of_lt (k22 j (by lia) (by lia)))
       by_cases c5:(k-1 == 0)=true
       ·rw[if_pos c5]
        exact wpS_pure ⟨L4,.inl ⟨_,rfl,endA N5 (by simpa using c5)⟩⟩
       rw[if_neg c5]
       have c5':¬ k-1=0:=by simpa using c5
       have N5':MHi O a b _ (k-1) _:=⟨N5,by lia,by lia,by lia,by lia⟩
       by_cases c6:(decide (i3-k<7) && decide (j3-1-k2<7))=true
       ·rw[if_pos c6]
        exact wpS_pure ⟨L4,.inr ⟨_,_,_,_,_,_,rfl,N5',by rw[Array.size_push];rw[Array.size_append,Array.size_push];lia⟩⟩
       ·rw[if_neg c6]
        exact wpS_pure ⟨L4,_,_,_,_,_,_,rfl,N5',by rw[Array.size_push];rw[Array.size_append,Array.size_push];lia⟩
      ·rw[if_neg hk0]
       refine wpS_bind (ag (by lia) ?_)
       have N5:=oneA (na:=k-1) (by rw[ei];exact N) (by lia) (fun j q1 q2=>Cmp.le_of_lt (k22 j (by lia) (by lia)))
       by_cases c5:(k-1 == 0)=true
       ·rw[if_pos c5]
        exact wpS_pure ⟨L4,.inl ⟨_,rfl,endA N5 (by simpa using c5)⟩⟩
       rw[if_neg c5]
       have c5':¬ k-1=0:=by simpa using c5
       have N5':MHi O a b _ (k-1) _:=⟨N5,by lia,by lia,by lia,by lia⟩
       by_cases c6:(decide (i3-k<7) && decide (j3-1-k2<7))=true
       ·rw[if_pos c6]
        exact wpS_pure ⟨L4,.inr ⟨_,_,_,_,_,_,rfl,N5',by rw[Array.size_push];rw[Array.size_push];lia⟩⟩
       ·rw[if_neg c6]
        exact wpS_pure ⟨L4,_,_,_,_,_,_,rfl,N5',by rw[Array.size_push];rw[Array.size_push];lia⟩
     ·rw[if_neg hk0]
      have ek:k=i3:=by lia
      have M4:=M3.m
      have ho4:=h3
      have hle4:∀ j,j<i3→j<a.size→O.le (G a j) (G b (j3-1)):=fun j q1 q2=>k2 j (by lia) (by lia)
      refine wpS_bind (ag (by lia) ?_)
      have N:=oneB (nb:=j3-1) (by rw[ej];exact M4) (by lia) fun j q1 q2=>hle4 j q1 q2
      by_cases c3:(j3-1 == 1)=true
      ·rw[if_pos c3]
       exact wpS_pure ⟨L4,.inl ⟨_,rfl,endB N (by simpa using c3)⟩⟩
      rw[if_neg c3]
      have c3':¬ j3-1=1:=by simpa using c3
      have ei:i3-1+1=i3:=by lia
      refine wpS_bind (ag (by lia) ?_)
      refine wpS_bind (a6 (O:=O) (base:=0) (L4.kind.trans hk) (ra.ok _ (by lia) (by lia)) (rb.sub (by lia) (by lia)) (by lia) fun k2 k21 k22 k23=>?_)
      have kpos:1≤k2:=by
       rcases Nat.lt_or_ge 0 k2 with z | z
       ·assumption
       ·have q:=k23 0 (by lia) (by lia)
        have q2:=h0 (i3-1) (by lia)
        unfold Cmp.le at q
        rw[q] at q2;cases q2
      dsimp only
      by_cases hk0:j3-1-k2>0
      ·rw[if_pos hk0]
       have N2:=manyB (at_:=k2) N (by assumption) (by assumption) (by assumption) fun i q1 q2=>k23 i (by lia) (by lia)
       by_cases c4:(k2 == 1)=true
       ·rw[if_pos c4]
        exact wpS_pure ⟨L4,.inl ⟨_,rfl,endB N2 (by simpa using c4)⟩⟩
       rw[if_neg c4]
       have c4':¬ k2=1:=by simpa using c4
       rw[if_neg (by simp;lia)]
       refine wpS_bind (ag (by lia) ?_)
       have N5:=oneA (na:=i3-1) (by rw[ei];exact N2) (by lia) (fun j q1 q2=>Cmp.le_of_lt (k22 j (by lia) (by lia)))
       by_cases c5:(i3-1 == 0)=true
       ·rw[if_pos c5]
        exact wpS_pure ⟨L4,.inl ⟨_,rfl,endA N5 (by simpa using c5)⟩⟩
       rw[if_neg c5]
       have c5':¬ i3-1=0:=by simpa using c5
       have N5':MHi O a b _ (i3-1) _:=⟨N5,by lia,by lia,by lia,by lia⟩
       by_cases c6:(decide (i3-k<7) && decide (j3-1-k2<7))=true
       ·rw[if_pos c6]
        exact wpS_pure ⟨L4,.inr ⟨_,_,_,_,_,_,rfl,N5',by rw[Array.size_push];rw[Array.size_append,Array.size_push];lia⟩⟩
       ·rw[if_neg c6]
        exact wpS_pure ⟨L4,_,_,_,_,_,_,rfl,N5',by rw[Array.size_push];rw[Array.size_append,Array.size_push];lia⟩
      ·rw[if_neg hk0]
       refine wpS_bind (ag (by lia) ?_)
       have N5:=oneA (na:=i3-1) (by rw[ei];exact N) (by lia) (fun j q1 q2=>Cmp.le_of_lt (k22 j (by lia) (by lia)))
       by_cases c5:(i3-1 == 0)=true
       ·rw[if_pos c5]
        exact wpS_pure ⟨L4,.inl ⟨_,rfl,endA N5 (by simpa using c5)⟩⟩
       rw[if_neg c5]
       have c5':¬ i3-1=0:=by simpa using c5
       have N5':MHi O a b _ (i3-1) _:=⟨N5,by lia,by lia,by lia,by lia⟩
       by_cases c6:(decide (i3-k<7) && decide (j3-1-k2<7))=true
       ·rw[if_pos c6]
        exact wpS_pure ⟨L4,.inr ⟨_,_,_,_,_,_,rfl,N5',by rw[Array.size_push];rw[Array.size_push];lia⟩⟩
       ·rw[if_neg c6]
        exact wpS_pure ⟨L4,_,_,_,_,_,_,rfl,N5',by rw[Array.size_push];rw[Array.size_push];lia⟩
end
end TS
set_option autoImplicit false
namespace TS
open PySem PyProof.Rows
section
variable {κ:SortKind}{prog:Program}{w:World}{A:Around}{E:Value→Shared→Prop}{s:Shared}{O:Cmp κ prog w A s}
theorem qY {xs:Array Keyed}{i:Nat}(h:i<xs.size):G xs i∈xs.toList:=by
 have e:xs.toList[i]? = some (G xs i):=by rw[Array.getElem?_toList];exact du h
 exact mem_of_getElem? e
theorem j1 {xs ys:Array Keyed}{P:Keyed→Prop}(hp:xs.Perm ys)(h:∀ p∈ys.toList,P p):∀ p∈xs.toList,P p:=fun p m=>h p ((Array.perm_iff_toList_perm.mp hp).mem_iff.mp m)
structure Bs (O:Cmp κ prog w A s)(st0:SortSt)(lo hi:Nat)(st:SortSt):Prop where
 kind:kindOf st=κ
 ok:∀ p∈(arrOf st).toList,O.ok p
 pend:pendingOf st=pendingOf st0
 failed:failedOf st=none
 perm:(arrOf st).Perm (arrOf st0)
 oth:∀ i,i<lo∨hi≤i→(arrOf st)[i]? = (arrOf st0)[i]?
variable {st0 st:SortSt}{lo hi:Nat}
theorem Bs.size (B:Bs O st0 lo hi st):(arrOf st).size=(arrOf st0).size:=B.perm.size_eq
theorem Bs.set (B:Bs O st0 lo hi st){xs:Array Keyed}(hp:xs.Perm (arrOf st))(ho:∀ i,i<lo∨hi≤i→xs[i]? = (arrOf st)[i]?):Bs O st0 lo hi (setArr st xs) :=
 ⟨B.kind,j1 hp B.ok,B.pend,B.failed,hp.trans B.perm,fun i h=>(ho i h).trans (B.oth i h)⟩
theorem di {i j:Nat}{Q:Option Bool→SortSt→Prop}(B:Bs O st0 lo hi st)(hi':i<(arrOf st).size)(hj:j<(arrOf st).size)(h:Q (some (O.r (G (arrOf st) i) (G (arrOf st) j))) st):wpS (model prog w) A E s (ltAt' i j) Q st:=by
 rw[ltAt'_eq]
 refine wpS_bind (wpS_get ?_)
 refine wpS_bind (ag hi' (wpS_bind (ag hj ?_)))
 exact O.ask B.kind (B.ok _ (qY hi')) (B.ok _ (qY hj)) h
theorem mt {xs:Array Keyed}{src d:Nat}(hs:src<xs.size)(hd:d≤src)(k:Nat) :
 G (bubble xs src d) k=if k=src-d then G xs src else if src-d<k∧k≤src then G xs (k-1) else G xs k:=by
 have e:=getElem?_bubble hs d hd k
 by_cases h1:k=src-d
 ·rw[if_pos h1] at e ⊢;exact i8 e
 ·rw[if_neg h1] at e ⊢
  by_cases h2:src-d<k∧k≤src
  ·rw[if_pos h2] at e ⊢;exact i8 e
  ·rw[if_neg h2] at e ⊢;exact i8 e
theorem iP {xs:Array Keyed}{i j:Nat}(hj:j≤xs.size)(k:Nat):G (mirror xs i j ((j-i) / 2)) k=if i≤k∧k<j then G xs (i+j-1-k) else G xs k:=by
 have e:=getElem?_mirror_all (i:=i) hj k
 by_cases h1:i≤k∧k<j
 ·rw[if_pos h1] at e ⊢;exact i8 e
 ·rw[if_neg h1] at e ⊢;exact i8 e
theorem Bs.mirror (B:Bs O st0 lo hi st){i j:Nat}(h1:lo≤i)(h2:j≤hi)(h3:hi≤(arrOf st).size):Bs O st0 lo hi (setArr st (mirror (arrOf st) i j ((j-i) / 2))) :=
 B.set (mirror_perm _ _ _ _) fun k hk=>by rw[getElem?_mirror_all (by lia),if_neg (by lia)]
def Up (O:Cmp κ prog w A s)(xs:Array Keyed)(lo n:Nat):Prop:=∀ i j,i≤j→j<n→O.le (G xs (lo+i)) (G xs (lo+j))
def gJ (O:Cmp κ prog w A s)(xs:Array Keyed)(lo n:Nat):Prop:=∀ i j,i≤j→j<n→O.le (G xs (lo+j)) (G xs (lo+i))
def Eqv (O:Cmp κ prog w A s)(a b:Keyed):Prop:=O.le a b∧O.le b a
theorem gz {n ok:Nat}{Q:Bool→SortSt→Prop}(hn:lo+n≤(arrOf st0).size)(hok:ok≤n)(B:Bs O st0 lo (lo+n) st)(hs:Up O (arrOf st) lo ok)
 (h:∀ st',Bs O st0 lo (lo+n) st'→Up O (arrOf st') lo n→Q true st'):wpS (model prog w) A E s (binarySort' lo n ok) Q st:=by
 rw[binarySort'_eq]
 refine wpS_bind (wpS_mono (wpS_forRange (I:=fun k c st'=>c=(none,())∧Bs O st0 lo (lo+n) st'∧Up O (arrOf st') lo (min k n))
  (Q:=fun c st'=>c=(none,())∧Bs O st0 lo (lo+n) st'∧Up O (arrOf st') lo n) ?step ?fin ?init) ?post)
 case post =>
  rintro c st' ⟨rfl,B',hs'⟩
  exact wpS_pure (h st' B' hs')
 case init =>
  refine⟨rfl,B,fun i j hij hj=>?_⟩
  by_cases h1:ok=0
  ·have:i=j:=by lia
   subst this;exact O.le_refl _
  ·exact hs i j hij (by lia)
 case fin =>
  rintro c st' ⟨hc,B',hs'⟩
  refine⟨hc,B',?_⟩
  rwa [show min (max (max ok 1) n) n=n by lia] at hs'
 case step =>
  rintro k c st' hak hkn ⟨rfl,B',hs'⟩
  rw[show min k n=k by lia] at hs'
  have hsz:=B'.size
  refine wpS_bind (wpS_mono (wpS_forRange (I:=fun x c st''=>st''=st'∧∃ l r,c=(none,l,r)∧l≤r∧r≤k∧r-l≤k-x ∧
   (∀ i,i<l→O.le (G (arrOf st') (lo+i)) (G (arrOf st') (lo+k)))∧(∀ i,r≤i→i<k→O.r (G (arrOf st') (lo+k)) (G (arrOf st') (lo+i))=true))
   (Q:=fun c st''=>st''=st'∧∃ l r,c=(none,l,r)∧l≤k ∧
    (∀ i,i<l→O.le (G (arrOf st') (lo+i)) (G (arrOf st') (lo+k)))∧(∀ i,l≤i→i<k→O.r (G (arrOf st') (lo+k)) (G (arrOf st') (lo+i))=true)) ?istep ?ifin ?iinit) ?ipost)
  case iinit=>exact⟨rfl,0,k,rfl,by lia,by lia,by lia,fun i hi=>by lia,fun i h1 h2=>by lia⟩
  case ifin =>
   rintro c st'' ⟨rfl,l,r,rfl,hlr,hrk,hm,hlo,hhi⟩
   have:l=r:=by lia
   subst this
   exact⟨rfl,l,l,rfl,hrk,hlo,hhi⟩
  case istep =>
   rintro x c st'' _ hxk ⟨rfl,l,r,rfl,hlr,hrk,hm,hlo,hhi⟩
   dsimp only
   by_cases hge:l≥r
   ·rw[if_pos hge]
    have:l=r:=by lia
    subst this
    exact wpS_pure ⟨rfl,l,l,rfl,hrk,hlo,hhi⟩
   ·rw[if_neg hge]
    refine wpS_bind (di B' (by lia) (by lia) ?_)
    cases hless:O.r (G (arrOf st'') (lo+k)) (G (arrOf st'') (lo+(l+r) / 2))
    case true =>
     simp only[if_true]
     refine wpS_pure ⟨rfl,l,(l+r) / 2,rfl,by lia,by lia,by lia,hlo,fun i h1 h2=>?_⟩
     exact Cmp.lt_of_lt_of_le hless (hs' _ _ h1 h2)
    case false =>
     simp only[Bool.false_eq_true,if_false]
     refine wpS_pure ⟨rfl,(l+r) / 2+1,r,rfl,by lia,by assumption,by lia,fun i h1=>?_,hhi⟩
     exact Cmp.le_trans (hs' i ((l+r) / 2) (by lia) (by lia)) (Cmp.le_of_not hless)
  case ipost =>
   rintro c st'' ⟨rfl,l,r,rfl,hlk,hlo,hhi⟩
   show wpS _ _ _ _ (do moveDown' (lo+k) (lo+l);pure (ForInStep.yield (none,()))) _ _
   rw[moveDown'_eq]
   have hks:lo+k<(arrOf st'').size:=by lia
   refine wpS_bind (wpS_modify (wpS_pure ⟨rfl,B'.set (bubble_perm _ _ _) (fun i hi=>?_),?_⟩))
   ·rw[getElem?_bubble hks _ (by lia),if_neg (by lia),if_neg (by lia)]
   rw[show min (k+1) n=k+1 by lia]
   intro i j hij hj
   show O.le (G (bubble (arrOf st'') (lo+k) (lo+k-(lo+l))) (lo+i)) (G (bubble (arrOf st'') (lo+k) (lo+k-(lo+l))) (lo+j))
   rw[mt hks (by lia),mt hks (by lia),show lo+k-(lo+k-(lo+l))=lo+l by lia]
   have key:∀ m:Nat,lo+m-1=lo+(m-1)∨m=0:=fun m=>by lia
   repeat' split
   all_goals first
    | (exfalso;lia)
    | exact O.le_refl _
    | (rw[show lo+j-1=lo+(j-1) by lia];exact Cmp.le_of_lt (hhi _ (by lia) (by lia)))
    | exact Cmp.le_of_lt (hhi _ (by omega) (by omega))
    | exact hlo _ (by lia)
    | exact hs' _ _ (by assumption) (by lia)
    | (rw[show lo+j-1=lo+(j-1) by lia];exact hs' _ _ (by lia) (by lia))
    | (rw[show lo+i-1=lo+(i-1) by lia,show lo+j-1=lo+(j-1) by lia];exact hs' _ _ (by lia) (by lia))
    | (rw[show lo+i-1=lo+(i-1) by omega];exact hs' _ _ (by omega) (by omega))
def qW (lo a nrem:Nat):StateT SortSt Sem AscSt :=
 forIn [a:nrem] ((none,a):AscSt) fun _ __s=>do
  let __x ←ltAt' (lo+__s.snd) (lo+__s.snd-1)
  match __x with
  | some smaller=>if smaller=true then pure (ForInStep.done (none,__s.snd)) else pure (ForInStep.yield (none,__s.snd+1))
  | _=>pure (ForInStep.done (some none,__s.snd))
def kP (lo n nrem:Nat):StateT SortSt Sem (Option Nat):=do
 reverseSlice' lo (lo+n)
 let __s ←qW lo n nrem
 match __s.fst with
 | some r=>pure r
 | none=>pure (some __s.snd)
def nV (lo n nrem:Nat):StateT SortSt Sem DescSt :=
 forIn [n:nrem] ((none,n,0):DescSt) fun _ __s=>do
  let __x ←ltAt' (lo+__s.snd.fst) (lo+__s.snd.fst-1)
  match __x with
  | some smaller =>
    if smaller=true then
     if __s.snd.snd>0 then do
      reverseSlice' (lo+__s.snd.fst-(__s.snd.snd+1)) (lo+__s.snd.fst)
      pure (ForInStep.yield (none,__s.snd.fst+1,0))
     else pure (ForInStep.yield (none,__s.snd.fst+1,0))
    else do
     let __x ←ltAt' (lo+__s.snd.fst-1) (lo+__s.snd.fst)
     match __x with
     | some larger =>
       if larger=true then pure (ForInStep.done (none,__s.snd.fst,__s.snd.snd))
       else pure (ForInStep.yield (none,__s.snd.fst+1,__s.snd.snd+1))
     | _=>pure (ForInStep.done (some none,__s.snd.fst,__s.snd.snd))
  | _=>pure (ForInStep.done (some none,__s.snd.fst,__s.snd.snd))
def ma (lo n nrem:Nat):StateT SortSt Sem (Option Nat):=do
 liftM (rule "list.sort.descending-run")
 let __s ←nV lo (n+1) nrem
 match __s.fst with
 | some r=>pure r
 | none =>
   if __s.snd.snd>0 then do
    reverseSlice' (lo+__s.snd.fst-(__s.snd.snd+1)) (lo+__s.snd.fst)
    kP lo __s.snd.fst nrem
   else kP lo __s.snd.fst nrem
theorem kx (lo nrem:Nat):countRun' lo nrem=(do
 let __s ←qW lo 1 nrem
 match __s.fst with
 | some r=>pure r
 | none =>
   if (__s.snd == nrem)=true then pure (some __s.snd)
   else if __s.snd>1 then do
    let __x ←ltAt' lo (lo+__s.snd-1)
    match __x with
    | some rose=>if rose=true then pure (some __s.snd) else do
     reverseSlice' lo (lo+__s.snd)
     ma lo __s.snd nrem
    | _=>pure none
   else ma lo __s.snd nrem):=by
 rw[countRun'_eq]
 dsimp only
 unfold ma kP nV qW
 congr 1
 funext __s
 obtain⟨r,n⟩:=__s
 cases r with
 | some r=>rfl
 | none =>
   dsimp only
   split
   ·rfl
   ·split
    ·congr 1
     funext x
     cases x with
     | none=>rfl
     | some rose =>
       dsimp only
       split
       ·rfl
       ·congr 1
        funext _r
        (congr 1;funext _u;congr 1;congr 1;funext s2;obtain⟨r2,n2,q2⟩:=s2;cases r2 with
         | some r2=>rfl
         | none=>(dsimp only;split;(congr 1;funext _v;(congr 1;funext _w;congr 1;(funext s3;obtain⟨r3,n3⟩:=s3;cases r3 <;> rfl)));(congr 1;funext _w;congr 1;(funext s3;obtain⟨r3,n3⟩:=s3;cases r3 <;> rfl))))
    ·(congr 1;funext _u;congr 1;congr 1;funext s2;obtain⟨r2,n2,q2⟩:=s2;cases r2 with
      | some r2=>rfl
      | none=>(dsimp only;split;(congr 1;funext _v;(congr 1;funext _w;congr 1;(funext s3;obtain⟨r3,n3⟩:=s3;cases r3 <;> rfl)));(congr 1;funext _w;congr 1;(funext s3;obtain⟨r3,n3⟩:=s3;cases r3 <;> rfl))))
end
end TS
set_option autoImplicit false
namespace TS
open PySem PyProof.Rows
section
variable {κ:SortKind}{prog:Program}{w:World}{A:Around}{E:Value→Shared→Prop}{s:Shared}{O:Cmp κ prog w A s}{st0 st:SortSt}{lo hi:Nat}
theorem Eqv.refl (a:Keyed):Eqv O a a:=⟨O.le_refl a,O.le_refl a⟩
theorem Eqv.trans {a b c:Keyed}(h:Eqv O a b)(h':Eqv O b c):Eqv O a c:=⟨Cmp.le_trans h.1 h'.1,Cmp.le_trans h'.2 h.2⟩
theorem Eqv.symm {a b:Keyed}(h:Eqv O a b):Eqv O b a:=⟨h.2,h.1⟩
theorem ft {xs:Array Keyed}{i j:Nat}(hj:j≤xs.size)(heq:∀ k,i≤k→k<j→Eqv O (G xs k) (G xs (j-1)))(k:Nat):Eqv O (G (mirror xs i j ((j-i) / 2)) k) (G xs k):=by
 rw[iP hj]
 split
 ·exact (heq _ (by lia) (by lia)).trans (heq k (by lia) (by lia)).symm
 ·exact .refl _
theorem gJ.eqv {xs ys:Array Keyed}{n:Nat}(h:gJ O xs lo n)(e:∀ k,Eqv O (G ys k) (G xs k)):gJ O ys lo n:=fun i j hij hj=>Cmp.le_trans (e _).1 (Cmp.le_trans (h i j hij hj) (e _).2)
theorem gJ.mirror {xs:Array Keyed}{n:Nat}(h:gJ O xs lo n)(hn:lo+n≤xs.size):Up O (mirror xs lo (lo+n) ((lo+n-lo) / 2)) lo n:=by
 intro i j hij hj
 rw[iP hn,iP hn,if_pos (by lia),if_pos (by lia),show lo+(lo+n)-1-(lo+i)=lo+(n-1-i) by lia,show lo+(lo+n)-1-(lo+j)=lo+(n-1-j) by lia]
 exact h _ _ (by lia) (by lia)
theorem cq {i j:Nat}{Q:Unit→SortSt→Prop}(h:Q () (setArr st (mirror (arrOf st) i j ((j-i) / 2)))):wpS (model prog w) A E s (reverseSlice' i j) Q st:=by
 rw[reverseSlice'_eq];exact wpS_modify h
theorem kJ {a nrem:Nat}{Q:AscSt→SortSt→Prop}(hn:lo+nrem≤(arrOf st0).size)(ha:1≤a)(han:a≤nrem)(B:Bs O st0 lo (lo+nrem) st)(hs:Up O (arrOf st) lo a)
 (h:∀ n,a≤n→n≤nrem→Up O (arrOf st) lo n→(n=nrem∨O.r (G (arrOf st) (lo+n)) (G (arrOf st) (lo+n-1))=true)→Q (none,n) st):wpS (model prog w) A E s (qW lo a nrem) Q st:=by
 unfold qW
 have hsz:=B.size
 refine wpS_forRange (I:=fun x c st'=>st'=st∧c=(none,x)∧Up O (arrOf st) lo x) ?step ?fin ⟨rfl,rfl,hs⟩
 case fin =>
  rintro c st' ⟨rfl,rfl,hs'⟩
  rw[show max a nrem=nrem by lia] at hs' ⊢
  exact h nrem han (Nat.le_refl _) hs' (.inl rfl)
 case step =>
  rintro x c st' hax hxn ⟨rfl,rfl,hs'⟩
  dsimp only
  refine wpS_bind (di B (by lia) (by lia) ?_)
  cases hless:O.r (G (arrOf st') (lo+x)) (G (arrOf st') (lo+x-1))
  case true =>
   simp only[if_true]
   exact wpS_pure (h x hax (by lia) hs' (.inr hless))
  case false =>
   simp only[Bool.false_eq_true,if_false]
   refine wpS_pure ⟨rfl,rfl,fun i j hij hj=>?_⟩
   by_cases hjx:j<x
   ·exact hs' i j hij hjx
   ·have hj':j=x:=by lia
    subst hj'
    by_cases hi':i=j
    ·subst hi';exact O.le_refl _
    ·have q:=hs' i (j-1) (by lia) (by lia)
     rw[show lo+(j-1)=lo+j-1 by lia] at q
     exact Cmp.le_trans q (Cmp.le_of_not hless)
theorem jd {n nrem:Nat}{Q:Option Nat→SortSt→Prop}(hn:lo+nrem≤(arrOf st0).size)(h1:1≤n)(hnn:n≤nrem)(B:Bs O st0 lo (lo+nrem) st)(hs:gJ O (arrOf st) lo n)
 (h:∀ m st',Bs O st0 lo (lo+nrem) st'→1≤m→m≤nrem→Up O (arrOf st') lo m→Q (some m) st'):wpS (model prog w) A E s (kP lo n nrem) Q st:=by
 unfold kP
 have hsz:=B.size
 refine wpS_bind (cq ?_)
 have B':Bs O st0 lo (lo+nrem) (setArr st (mirror (arrOf st) lo (lo+n) ((lo+n-lo) / 2))):=B.mirror (by lia) (by lia) (by lia)
 exact wpS_bind (kJ hn h1 hnn B' (hs.mirror (by lia)) fun m hm1 hm2 hsm _=>wpS_pure (h m _ B' (by lia) hm2 hsm))
theorem oq {n nrem:Nat}{Q:DescSt→SortSt→Prop}(hn:lo+nrem≤(arrOf st0).size)(h1:1≤n)(hnn:n≤nrem)(B:Bs O st0 lo (lo+nrem) st)(hs:gJ O (arrOf st) lo n)
 (h:∀ m neq st',Bs O st0 lo (lo+nrem) st'→n≤m→m≤nrem→gJ O (arrOf st') lo m→neq+1≤m→(∀ k,lo+m-(neq+1)≤k→k<lo+m→Eqv O (G (arrOf st') k) (G (arrOf st') (lo+m-1)))→Q (none,m,neq) st') :
 wpS (model prog w) A E s (nV lo n nrem) Q st:=by
 unfold nV
 refine wpS_forRange (I:=fun x c st'=>∃ neq,c=(none,x,neq)∧Bs O st0 lo (lo+nrem) st'∧gJ O (arrOf st') lo x∧neq+1≤x ∧
  (∀ k,lo+x-(neq+1)≤k→k<lo+x→Eqv O (G (arrOf st') k) (G (arrOf st') (lo+x-1)))) ?step ?fin ⟨0,rfl,B,hs,by assumption,fun i h1 h2=>by rw[show i=lo+n-1 by lia];exact .refl _⟩
 case fin =>
  rintro c st' ⟨neq,rfl,B',hs',hq,he⟩
  rw[show max n nrem=nrem by lia] at hs' hq he ⊢
  exact h nrem neq st' B' hnn (Nat.le_refl _) hs' hq he
 case step =>
  rintro x c st' hax hxn ⟨neq,rfl,B',hs',hq,he⟩
  dsimp only
  have hsz:=B'.size
  refine wpS_bind (di B' (by lia) (by lia) ?_)
  cases hless:O.r (G (arrOf st') (lo+x)) (G (arrOf st') (lo+x-1))
  case true =>
   simp only[if_true]
   have step1:gJ O (arrOf st') lo (x+1):=by
    intro i j hij hj
    by_cases hjx:j<x
    ·exact hs' i j hij hjx
    ·have hj':j=x:=by lia
     subst hj'
     by_cases hi':i=j
     ·subst hi';exact O.le_refl _
     ·have q:=hs' i (j-1) (by lia) (by lia)
      rw[show lo+(j-1)=lo+j-1 by lia] at q
      exact Cmp.le_trans (Cmp.le_of_lt hless) q
   by_cases hneq:neq>0
   ·rw[if_pos hneq]
    refine wpS_bind (cq (wpS_pure ⟨0,rfl,B'.mirror (by lia) (by lia) (by lia),step1.eqv (ft (by lia) he),by lia,fun i h1 h2=>by rw[show i=lo+(x+1)-1 by lia];exact .refl _⟩))
   ·rw[if_neg hneq]
    exact wpS_pure ⟨0,rfl,B',step1,by lia,fun i h1 h2=>by rw[show i=lo+(x+1)-1 by lia];exact .refl _⟩
  case false =>
   simp only[Bool.false_eq_true,if_false]
   refine wpS_bind (di B' (by lia) (by lia) ?_)
   cases hlarger:O.r (G (arrOf st') (lo+x-1)) (G (arrOf st') (lo+x))
   case true =>
    simp only[if_true]
    exact wpS_pure (h x neq st' B' hax (by lia) hs' hq he)
   case false =>
    simp only[Bool.false_eq_true,if_false]
    have heqx:Eqv O (G (arrOf st') (lo+x-1)) (G (arrOf st') (lo+x)):=⟨hless,hlarger⟩
    refine wpS_pure ⟨neq+1,rfl,B',fun i j hij hj=>?_,by lia,fun k h1 h2=>?_⟩
    ·by_cases hjx:j<x
     ·exact hs' i j hij hjx
     ·have hj':j=x:=by lia
      subst hj'
      by_cases hi':i=j
      ·subst hi';exact O.le_refl _
      ·have q:=hs' i (j-1) (by lia) (by lia)
       rw[show lo+(j-1)=lo+j-1 by lia] at q
       exact Cmp.le_trans heqx.2 q
    ·rw[show lo+(x+1)-1=lo+x by lia]
     by_cases hkx:k=lo+x
     ·subst hkx;exact .refl _
     ·exact (he k (by lia) (by lia)).trans heqx
theorem je {n nrem:Nat}{Q:Option Nat→SortSt→Prop}(hn:lo+nrem≤(arrOf st0).size)(hnn:n+1≤nrem)(B:Bs O st0 lo (lo+nrem) st)(hs:gJ O (arrOf st) lo (n+1))
 (h:∀ m st',Bs O st0 lo (lo+nrem) st'→1≤m→m≤nrem→Up O (arrOf st') lo m→Q (some m) st'):wpS (model prog w) A E s (ma lo n nrem) Q st:=by
 unfold ma
 refine wpS_bind (wpS_lift (wpAny_rule ⟨rfl,?_⟩))
 refine wpS_bind (oq hn (by lia) hnn B hs fun m neq st' B' hm1 hm2 hs' hq he=>?_)
 dsimp only
 have hsz:=B'.size
 by_cases hneq:neq>0
 ·rw[if_pos hneq]
  exact wpS_bind (cq (jd hn (by lia) hm2 (B'.mirror (by lia) (by lia) (by lia)) (hs'.eqv (ft (by lia) he)) h))
 ·rw[if_neg hneq]
  exact jd hn (by lia) hm2 B' hs' h
theorem iS {nrem:Nat}{Q:Option Nat→SortSt→Prop}(hn:lo+nrem≤(arrOf st0).size)(h1:1≤nrem)(B:Bs O st0 lo (lo+nrem) st)
 (h:∀ m st',Bs O st0 lo (lo+nrem) st'→1≤m→m≤nrem→Up O (arrOf st') lo m→Q (some m) st'):wpS (model prog w) A E s (countRun' lo nrem) Q st:=by
 rw[kx]
 refine wpS_bind (kJ hn (Nat.le_refl 1) h1 B (fun i j hij hj=>by have:i=j:=(by lia);subst this;exact O.le_refl _) fun n hn1 hn2 hsn hor=>?_)
 dsimp only
 have hsz:=B.size
 by_cases hnn:n=nrem
 ·rw[if_pos (by simpa using hnn)]
  exact wpS_pure (h n st B hn1 hn2 hsn)
 ·rw[if_neg (by simpa using hnn)]
  have hlt:=hor.resolve_left hnn
  by_cases hgt:n>1
  ·rw[if_pos hgt]
   refine wpS_bind (di B (by lia) (by lia) ?_)
   cases hrose:O.r (G (arrOf st) lo) (G (arrOf st) (lo+n-1))
   case true =>
    simp only[if_true]
    exact wpS_pure (h n st B hn1 hn2 hsn)
   case false =>
    simp only[Bool.false_eq_true,if_false]
    have hall:∀ k,lo≤k→k<lo+n→Eqv O (G (arrOf st) k) (G (arrOf st) (lo+n-1)):=by
     intro k hk1 hk2
     have a1:=hsn 0 (k-lo) (by lia) (by lia)
     have a2:=hsn (k-lo) (n-1) (by lia) (by lia)
     rw[show lo+0=lo by lia,show lo+(k-lo)=k by lia] at a1
     rw[show lo+(k-lo)=k by lia,show lo+(n-1)=lo+n-1 by lia] at a2
     exact⟨a2,Cmp.le_trans (Cmp.le_of_not hrose) a1⟩
    refine wpS_bind (cq (je hn (by lia) (B.mirror (by lia) (by lia) (by lia)) ?_ h))
    refine gJ.eqv (xs:=arrOf st) (fun i j hij hj=>?_) (ft (by lia) hall)
    by_cases hjn:j<n
    ·exact ((hall (lo+j) (by lia) (by lia)).trans (hall (lo+i) (by lia) (by lia)).symm).1
    ·have hj':j=n:=by lia
     subst hj'
     by_cases hi':i=j
     ·subst hi';exact O.le_refl _
     ·exact Cmp.le_trans (Cmp.le_of_lt hlt) (hall (lo+i) (by lia) (by lia)).2
  ·rw[if_neg hgt]
   have hn1':n=1:=by lia
   subst hn1'
   refine je hn (by lia) B ?_ h
   intro i j hij hj
   by_cases hi':i=j
   ·subst hi';exact O.le_refl _
   ·have hi0:i=0:=by lia
    have hj1:j=1:=by lia
    subst hi0;subst hj1
    have q:=Cmp.le_of_lt hlt
    rwa [show lo+1-1=lo+0 by lia] at q
end
end TS
set_option autoImplicit false
namespace TS
open PySem PyProof.Rows
def over (xs:Array Keyed)(sa:Nat)(ys:List Keyed):Array Keyed:=ys.zipIdx.foldl (fun a (p,j)=>a.setIfInBounds (sa+j) p) xs
theorem ig (sa:Nat):∀ (ys:List Keyed) (n:Nat) (xs:Array Keyed),((ys.zipIdx n).foldl (fun a (p,j)=>a.setIfInBounds (sa+j) p) xs).size=xs.size ∧
 ∀ i,((ys.zipIdx n).foldl (fun a (p,j)=>a.setIfInBounds (sa+j) p) xs)[i]? = if sa+n≤i∧i<sa+n+ys.length∧i<xs.size then ys[i-(sa+n)]? else xs[i]?
 | [],n,xs=>⟨rfl,fun i=>by rw[if_neg (by simp only[length_nil];lia)];rfl⟩
 | y :: ys,n,xs=>by
   obtain⟨h1,h2⟩:=ig sa ys (n+1) (xs.setIfInBounds (sa+n) y)
   rw[List.zipIdx_cons,foldl_cons]
   refine⟨by rw[h1];simp,fun i=>?_⟩
   rw[h2 i]
   simp only[Array.size_setIfInBounds,length_cons]
   by_cases hc:sa+n≤i∧i<sa+n+(ys.length+1)∧i<xs.size
   ·rw[if_pos hc]
    by_cases he:i=sa+n
    ·subst he
     rw[if_neg (by lia),Array.getElem?_setIfInBounds_self_of_lt hc.2.2,Nat.sub_self]
     rfl
    ·rw[if_pos (by lia),show i-(sa+n)=(i-(sa+(n+1)))+1 by lia]
     rfl
   ·rw[if_neg hc]
    by_cases hin:i<xs.size
    ·rw[if_neg (by lia),Array.getElem?_setIfInBounds_ne (by lia)]
    ·rw[if_neg (by lia)]
     rw[Array.getElem?_eq_none (by simp;lia),Array.getElem?_eq_none (by lia)]
theorem eV (xs:Array Keyed)(sa:Nat)(ys:List Keyed):(over xs sa ys).size=xs.size:=(ig sa ys 0 xs).1
theorem lu (xs:Array Keyed)(sa:Nat)(ys:List Keyed)(i:Nat)(h:sa+ys.length≤xs.size):(over xs sa ys)[i]? = if sa≤i∧i<sa+ys.length then ys[i-sa]? else xs[i]?:=by
 have:=(ig sa ys 0 xs).2 i
 simp only[Nat.add_zero] at this
 unfold over
 rw[this]
 by_cases hc:sa≤i∧i<sa+ys.length
 ·rw[if_pos hc,if_pos (by lia)]
 ·rw[if_neg hc,if_neg (by lia)]
theorem oJ (xs:Array Keyed)(sa:Nat)(ys:List Keyed)(h:sa+ys.length≤xs.size):(over xs sa ys).toList=xs.toList.take sa++ys++xs.toList.drop (sa+ys.length):=by
 apply ext_getElem?
 intro i
 rw[Array.getElem?_toList,lu xs sa ys i h]
 by_cases h1:i<sa
 ·rw[if_neg (by lia),append_assoc,getElem?_append_left (by simp;lia),List.getElem?_take_of_lt h1,Array.getElem?_toList]
 ·by_cases h2:i<sa+ys.length
  ·rw[if_pos (by lia),getElem?_append_left (by simp;lia),getElem?_append_right (by simp;lia)]
   congr 1
   simp only[length_take,Array.length_toList]
   lia
  ·rw[if_neg (by lia),getElem?_append_right (by simp;lia),getElem?_drop,Array.getElem?_toList]
   congr 1
   simp only[length_append,length_take,Array.length_toList]
   lia
theorem jt (xs:Array Keyed)(sa n:Nat)(ys:List Keyed)(h:sa+n≤xs.size)(hp:ys.Perm ((xs.toList.drop sa).take n)):(over xs sa ys).Perm xs:=by
 have hl:ys.length=n:=by rw[hp.length_eq];simp;lia
 rw[Array.perm_iff_toList_perm,oJ xs sa ys (by lia)]
 have e:xs.toList=xs.toList.take sa++(xs.toList.drop sa).take n++xs.toList.drop (sa+n):=by
  rw[append_assoc,←drop_drop,take_append_drop,take_append_drop]
 rw[hl]
 refine List.Perm.trans ?_ (List.Perm.of_eq e.symm)
 exact ((List.Perm.refl _).append hp).append (List.Perm.refl _)
theorem lO (i:Nat):mergeAt' i=(do
 let s ←get
 let (some (sa,na,power),some (sb,nb,_)):=((pendingOf s)[i]?,(pendingOf s)[i+1]?) | unsupported "internal:list.sort.pending"
 set (setPending s (((pendingOf s).setIfInBounds i (sa,na+nb,power)).eraseIdxIfInBounds (i+1)))
 let some k ←cB false (←elem' (arrOf s) sb) (arrOf s) sa na 0 | return false
 let (sa,na):=(sa+k,na-k)
 if na == 0 then return true
 let some nb ←cB true (←elem' (arrOf s) (sa+na-1)) (arrOf s) sb nb (nb-1) | return false
 if nb == 0 then return true
 let x:=(arrOf s).extract sa sb
 let y:=(arrOf s).extract sb (sb+nb)
 let merged ←if na≤nb then ip x y else iq x y
 modify fun s=>setArr s (over (arrOf s) sa merged.toList)
 return (failedOf (←get)).isNone):=rfl
section
variable {κ:SortKind}{prog:Program}{w:World}{A:Around}{E:Value→Shared→Prop}{s:Shared}{O:Cmp κ prog w A s}
theorem iQ {xs:Array Keyed}{i j k:Nat}(h:i+k<j)(hj:j≤xs.size):G (xs.extract i j) k=G xs (i+k):=by
 apply i8
 rw[Array.getElem?_extract,if_pos (by lia)]
theorem gN {xs:Array Keyed}{i j:Nat}(h:Run O xs i j):Run O (xs.extract i j) 0 (xs.extract i j).size:=by
 have hs:(xs.extract i j).size=j-i:=by rw[Array.size_extract];have:=h.sz;lia
 have hz:=h.sz
 refine⟨Nat.le_refl _,fun k _ hk=>?_,fun a b _ hab hb=>?_⟩
 ·rw[iQ (by lia) hz];exact h.ok _ (by lia) (by lia)
 ·rw[iQ (by lia) hz,iQ (by lia) hz];exact h.srt _ _ (by lia) (by lia) (by lia)
theorem q0 {σ:Type}{x st:σ}{Q:PUnit→σ→Prop}(h:Q ⟨⟩ x):wpS (model prog w) A E s (set x:StateT σ Sem PUnit) Q st:=by
 unfold wpS;rw[StateT.run_set];exact wpAny_pure ⟨rfl,h⟩
theorem kI {st:SortSt}{i sa na nb pa pb:Nat}{Q:Bool→SortSt→Prop}(hk:kindOf st=κ)(hf:failedOf st=none)(h1:(pendingOf st)[i]? = some (sa,na,pa))(h2:(pendingOf st)[i+1]? = some (sa+na,nb,pb))
 (ra:Run O (arrOf st) sa (sa+na)) (rb:Run O (arrOf st) (sa+na) (sa+na+nb)) (ha:0<na) (hb:0<nb)
 (h:∀ st',kindOf st'=κ→failedOf st'=none→pendingOf st'=((pendingOf st).setIfInBounds i (sa,na+nb,pa)).eraseIdxIfInBounds (i+1)→(arrOf st').Perm (arrOf st) →
  (∀ j,j<sa∨sa+na+nb≤j→(arrOf st')[j]? = (arrOf st)[j]?)→Run O (arrOf st') sa (sa+na+nb)→Q true st'):wpS (model prog w) A E s (mergeAt' i) Q st:=by
 rw[lO]
 refine wpS_bind (wpS_get ?_)
 rw[h1,h2]
 dsimp only
 refine wpS_bind (q0 ?_)
 have hz:=rb.sz
 refine wpS_bind (ag (by lia) ?_)
 refine wpS_bind (b6 (O:=O) (st:=setPending st _) hk (rb.ok _ (by lia) (by lia)) ra ha fun k k1 k2 k3=>?_)
 dsimp only
 have whole:(∀ x y,sa≤x→x<sa+na→sa+na≤y→y<sa+na+nb→O.le (G (arrOf st) x) (G (arrOf st) y))→Run O (arrOf st) sa (sa+na+nb):=fun hc=>by
  refine⟨hz,fun x q1 q2=>?_,fun x y q1 q2 q3=>?_⟩
  ·by_cases z:x<sa+na
   ·exact ra.ok x q1 z
   ·exact rb.ok x (by lia) q2
  ·by_cases z:y<sa+na
   ·exact ra.srt x y q1 q2 z
   ·by_cases z2:x<sa+na
    ·exact hc x y q1 z2 (by lia) q3
    ·exact rb.srt x y (by lia) q2 q3
 by_cases c1:(na-k == 0)=true
 ·rw[if_pos c1]
  have c1':na-k=0:=by simpa using c1
  refine wpS_pure (h _ hk hf rfl (Array.Perm.refl _) (fun _ _=>rfl) (whole fun x y q1 q2 q3 q4=>?_))
  exact Cmp.le_trans (k2 x q1 (by lia)) (rb.srt _ _ (by lia) q3 q4)
 rw[if_neg c1]
 have c1':¬ na-k=0:=by simpa using c1
 refine wpS_bind (ag (by lia) ?_)
 refine wpS_bind (a6 (O:=O) (st:=setPending st _) hk (ra.ok _ (by lia) (by lia)) rb (by lia) fun n n1 n2 n3=>?_)
 dsimp only
 have el:sa+k+(na-k)-1=sa+na-1:=by lia
 rw[el] at n2 n3
 by_cases c2:(n == 0)=true
 ·rw[if_pos c2]
  have c2':n=0:=by simpa using c2
  refine wpS_pure (h _ hk hf rfl (Array.Perm.refl _) (fun _ _=>rfl) (whole fun x y q1 q2 q3 q4=>?_))
  exact Cmp.le_trans (ra.srt x (sa+na-1) q1 (by lia) (by lia)) (n3 y (by lia) q4)
 rw[if_neg c2]
 have c2':¬ n=0:=by simpa using c2
 have rx:Run O (arrOf st) (sa+k) (sa+na):=ra.sub (by lia) (by lia)
 have ry:Run O (arrOf st) (sa+na) (sa+na+n):=rb.sub (by lia) (by lia)
 have sx:((arrOf st).extract (sa+k) (sa+na)).size=na-k:=by rw[Array.size_extract];lia
 have sy:((arrOf st).extract (sa+na) (sa+na+n)).size=n:=by rw[Array.size_extract];lia
 have fin:∀ (res:Array Keyed) (st2:SortSt),dI (setPending st (((pendingOf st).setIfInBounds i (sa,na+nb,pa)).eraseIdxIfInBounds (i+1))) st2 →
  dJ O.le (((arrOf st).extract (sa+k) (sa+na)).toList++((arrOf st).extract (sa+na) (sa+na+n)).toList) res.toList →
  wpS (model prog w) A E s (do
   modify fun s=>setArr s (over (arrOf s) (sa+k) res.toList)
   let __do_lift ←get
   pure (failedOf __do_lift).isNone) Q st2:=by
  intro res st2 L g
  refine wpS_bind (wpS_modify (wpS_bind (wpS_get (wpS_pure ?_))))
  have ef:failedOf st2=none:=L.failed.trans hf
  have ea:arrOf st2=arrOf st:=L.arr
  show Q (failedOf st2).isNone (setArr st2 (over (arrOf st2) (sa+k) res.toList))
  rw[ef,ea]
  obtain⟨gp,gs⟩:=g
  have el2:((arrOf st).extract (sa+k) (sa+na)).toList++((arrOf st).extract (sa+na) (sa+na+n)).toList=((arrOf st).toList.drop (sa+k)).take (na-k+n):=by
   rw[ce,ce,show sa+na-(sa+k)=na-k by lia,show sa+na+n-(sa+na)=n by lia,List.take_add,drop_drop]
   congr 3
   lia
  have hl:res.toList.length=na-k+n:=by rw[gp.length_eq,el2];simp;lia
  have ov:∀ j,(over (arrOf st) (sa+k) res.toList)[j]? = if sa+k≤j∧j<sa+na+n then res.toList[j-(sa+k)]? else (arrOf st)[j]?:=fun j=>by
   rw[lu _ _ _ _ (by lia),hl]
   by_cases c:sa+k≤j∧j<sa+na+n
   ·rw[if_pos c,if_pos (by lia)]
   ·rw[if_neg c,if_neg (by lia)]
  have rmem:∀ j,sa+k≤j→j<sa+na+n→∃ x,G (over (arrOf st) (sa+k) res.toList) j=G (arrOf st) x∧sa+k≤x∧x<sa+na+n:=fun j q1 q2=>by
   have hm:G (over (arrOf st) (sa+k) res.toList) j∈res.toList:=by
    have e:=ov j
    rw[if_pos ⟨q1,q2⟩] at e
    have:(over (arrOf st) (sa+k) res.toList)[j]? = some (G (over (arrOf st) (sa+k) res.toList) j):=du (by rw[eV];lia)
    rw[this] at e
    exact mem_of_getElem? e.symm
   have hm2:=gp.mem_iff.mp hm
   rw[el2] at hm2
   obtain⟨x,x1,x2,x3,x4⟩:=bY hm2
   exact⟨x,x4,by assumption,by lia⟩
  have out:∀ j,¬ (sa+k≤j∧j<sa+na+n)→G (over (arrOf st) (sa+k) res.toList) j=G (arrOf st) j:=fun j hj=>i8 (by rw[ov j,if_neg hj])
  refine h _ (L.kind.trans hk) ef (L.pend.trans rfl) (jt _ _ (na-k+n) _ (by lia) (by rw[←el2];exact gp)) (fun j hj=>by show (over (arrOf st) (sa+k) res.toList)[j]? = _;rw[ov j,if_neg (by lia)]) ?_
  have hB:∀ x,sa+k≤x→x<sa+na+n→O.le (G (arrOf st) (sa+na)) (G (arrOf st) x):=fun x x1 x2=>by
   by_cases z:x<sa+na
   ·exact Cmp.le_of_lt (k3 x x1 (by assumption))
   ·exact rb.srt _ _ (by lia) (by lia) (by lia)
  have hA:∀ x,sa+k≤x→x<sa+na+n→O.le (G (arrOf st) x) (G (arrOf st) (sa+na-1)):=fun x x1 x2=>by
   by_cases z:x<sa+na
   ·exact ra.srt _ _ (by lia) (by lia) (by lia)
   ·exact Cmp.le_of_lt (n2 x (by lia) (by assumption))
  have okA:∀ x,sa≤x→x<sa+na+nb→O.ok (G (arrOf st) x):=fun x x1 x2=>by
   by_cases z:x<sa+na
   ·exact ra.ok x x1 z
   ·exact rb.ok x (by lia) x2
  show Run O (over (arrOf st) (sa+k) res.toList) sa (sa+na+nb)
  refine⟨by rw[eV];exact hz,fun j q1 q2=>?_,fun x y q1 q2 q3=>?_⟩
  ·by_cases c:sa+k≤j∧j<sa+na+n
   ·obtain⟨x,e,x1,x2⟩:=rmem j c.1 c.2
    rw[e];exact okA x (by lia) (by lia)
   ·rw[out j c];exact okA j q1 q2
  ·by_cases cx:sa+k≤x∧x<sa+na+n
   ·by_cases cy:sa+k≤y∧y<sa+na+n
    ·
     by_cases exy:x=y
     ·subst exy;exact O.le_refl _
     have gx:res.toList[x-(sa+k)]? = some (G (over (arrOf st) (sa+k) res.toList) x):=by
      rw[←du (by rw[eV];lia),ov x,if_pos cx]
     have gy:res.toList[y-(sa+k)]? = some (G (over (arrOf st) (sa+k) res.toList) y):=by
      rw[←du (by rw[eV];lia),ov y,if_pos cy]
     obtain⟨lx,ex⟩:=List.getElem?_eq_some_iff.mp gx
     obtain⟨ly,ey⟩:=List.getElem?_eq_some_iff.mp gy
     have:=pairwise_iff_getElem.mp gs _ _ lx ly (by lia)
     rw[ex,ey] at this
     exact this
    ·
     obtain⟨u,e,u1,u2⟩:=rmem x cx.1 cx.2
     rw[e,out y cy]
     exact Cmp.le_trans (hA u u1 u2) (n3 y (by lia) (by assumption))
   ·rw[out x cx]
    by_cases cy:sa+k≤y∧y<sa+na+n
    ·obtain⟨u,e,u1,u2⟩:=rmem y cy.1 cy.2
     rw[e]
     exact Cmp.le_trans (k2 x q1 (by lia)) (hB u u1 u2)
    ·rw[out y cy]
     by_cases z:y<sa+na
     ·exact ra.srt x y q1 q2 z
     ·by_cases z2:x<sa+na
      ·exact Cmp.le_trans (k2 x q1 (by lia)) (rb.srt _ _ (by lia) (by lia) q3)
      ·exact rb.srt x y (by lia) q2 q3
 have p0:∀ j,j<((arrOf st).extract (sa+k) (sa+na)).size→O.r (G ((arrOf st).extract (sa+na) (sa+na+n)) 0) (G ((arrOf st).extract (sa+k) (sa+na)) j)=true:=fun j hj=>by
  rw[sx] at hj
  rw[iQ (by lia) (by lia),iQ (by lia) (by lia)]
  exact k3 _ (by lia) (by lia)
 have pl:∀ j,j<((arrOf st).extract (sa+na) (sa+na+n)).size→O.r (G ((arrOf st).extract (sa+na) (sa+na+n)) j) (G ((arrOf st).extract (sa+k) (sa+na)) (((arrOf st).extract (sa+k) (sa+na)).size-1))=true:=fun j hj=>by
  rw[sy] at hj
  rw[sx,iQ (by lia) (by lia),iQ (by lia) (by lia),show sa+k+(na-k-1)=sa+na-1 by lia]
  exact n2 _ (by lia) (by lia)
 by_cases hle:na-k≤n
 ·rw[if_pos hle]
  exact wpS_bind (kG (O:=O) (st:=setPending st _) hk (gN rx) (gN ry) (by lia) (by lia) (p0 0 (by lia)) pl fun res st2 L g=>fin res st2 L g)
 ·rw[if_neg hle]
  exact wpS_bind (kH (O:=O) (st:=setPending st _) hk (gN rx) (gN ry) (by lia) (by lia) p0 pl fun res st2 L g=>fin res st2 L g)
end
end TS
set_option autoImplicit false
namespace TS
open PySem PyProof.Rows
section
variable {κ:SortKind}{prog:Program}{w:World}{A:Around}{E:Value→Shared→Prop}{s:Shared}{O:Cmp κ prog w A s}
def bH (O:Cmp κ prog w A s)(xs:Array Keyed):List (Nat×Nat×Nat)→Nat→Nat→Prop
 | [],a,b=>a=b
 | (st,n,_) :: r,a,b=>st=a∧0<n∧Run O xs st (st+n)∧bH O xs r (st+n) b
theorem bH.le {xs:Array Keyed}:∀ {p:List (Nat×Nat×Nat)} {a b:Nat},bH O xs p a b→a+p.length≤b
 | [],a,b,h=>Nat.le_of_eq h
 | (st,n,_) :: r,a,b,h=>by
   obtain⟨rfl,hn,_,hr⟩:=h
   have:=hr.le
   simp only[length_cons];lia
theorem bH.append {xs:Array Keyed}:∀ {p q:List (Nat×Nat×Nat)} {a b c:Nat},bH O xs p a b→bH O xs q b c→bH O xs (p++q) a c
 | [],_,a,b,c,h,h'=>by cases (show a=b from h);exact h'
 | (st,n,_) :: r,_,a,b,c,h,h'=>⟨h.1,h.2.1,h.2.2.1,h.2.2.2.append h'⟩
theorem bH.split {xs:Array Keyed}:∀ {p q:List (Nat×Nat×Nat)} {a c:Nat},bH O xs (p++q) a c→∃ b,bH O xs p a b∧bH O xs q b c
 | [],_,a,c,h=>⟨a,rfl,h⟩
 | (st,n,_) :: r,_,a,c,h=>by
   obtain⟨b,h1,h2⟩:=h.2.2.2.split
   exact⟨b,⟨h.1,h.2.1,h.2.2.1,h1⟩,h2⟩
theorem Run.same {xs ys:Array Keyed}{a b:Nat}(h:Run O xs a b)(hs:ys.size=xs.size)(e:∀ i,a≤i→i<b→ys[i]? = xs[i]?):Run O ys a b :=
 ⟨by rw[hs];exact h.sz,fun i h1 h2=>by rw[i8 (e i h1 h2)];exact h.ok i h1 h2,fun i j h1 h2 h3=>by rw[i8 (e i h1 (by lia)),i8 (e j (by lia) h3)];exact h.srt i j h1 h2 h3⟩
theorem bH.same {xs ys:Array Keyed}(hs:ys.size=xs.size):∀ {p:List (Nat×Nat×Nat)} {a b:Nat},bH O xs p a b→(∀ i,a≤i→i<b→ys[i]? = xs[i]?)→bH O ys p a b
 | [],a,b,h,_=>h
 | (st,n,_) :: r,a,b,h,e=>by
   obtain⟨rfl,hn,hr,hc⟩:=h
   have:=hc.le
   exact⟨rfl,hn,hr.same hs fun i h1 h2=>e i h1 (by lia),hc.same hs fun i h1 h2=>e i (by lia) h2⟩
theorem bH.pw {xs:Array Keyed}:∀ {p q:List (Nat×Nat×Nat)} {a b:Nat},bH O xs p a b→q.map (fun t=>(t.1,t.2.1))=p.map (fun t=>(t.1,t.2.1))→bH O xs q a b
 | [],[],a,b,h,_=>h
 | [],_ :: _,a,b,h,e=>by simp at e
 | _ :: _,[],a,b,h,e=>by simp at e
 | (st,n,_) :: r,(st',n',_) :: r',a,b,h,e=>by
   simp only[map_cons,List.cons.injEq,Prod.mk.injEq] at e
   obtain⟨⟨rfl,rfl⟩,e⟩:=e
   exact⟨h.1,h.2.1,h.2.2.1,h.2.2.2.pw e⟩
structure SS (O:Cmp κ prog w A s)(a₀:Array Keyed)(lo:Nat)(st:SortSt):Prop where
 kind:kindOf st=κ
 failed:failedOf st=none
 perm:(arrOf st).Perm a₀
 ok:∀ p∈(arrOf st).toList,O.ok p
 chain:bH O (arrOf st) (pendingOf st).toList 0 lo
theorem mW {α:Type}(pre post:List α)(x y z:α):((pre++x :: y :: post).set pre.length z).eraseIdx (pre.length+1)=pre++z :: post:=by
 rw[List.set_append_right _ _ (Nat.le_refl _),Nat.sub_self,List.set_cons_zero,List.eraseIdx_append_of_length_le (by lia),show pre.length+1-pre.length=1 by lia]
 rfl
variable {a₀:Array Keyed}{lo:Nat}{st:SortSt}
theorem fh {i:Nat}{Q:Bool→SortSt→Prop}(S:SS O a₀ lo st)(hi:i+1<(pendingOf st).size)
 (h:∀ st',SS O a₀ lo st'→(pendingOf st').size+1=(pendingOf st).size→(∀ j,lo≤j→(arrOf st')[j]? = (arrOf st)[j]?)→Q true st'):wpS (model prog w) A E s (mergeAt' i) Q st:=by
 have c:=S.chain
 have hl:i+1<(pendingOf st).toList.length:=by simpa using hi
 obtain⟨x,y,hx,hy,e⟩:∃ x y,(pendingOf st)[i]? = some x∧(pendingOf st)[i+1]? = some y∧(pendingOf st).toList=(pendingOf st).toList.take i++x :: y :: (pendingOf st).toList.drop (i+2):=by
  refine⟨(pendingOf st).toList[i],(pendingOf st).toList[i+1],?_,?_,?_⟩
  ·rw[←Array.getElem?_toList,getElem?_eq_getElem]
  ·rw[←Array.getElem?_toList,getElem?_eq_getElem]
  ·conv=>lhs;rw[←take_append_drop i (pendingOf st).toList]
   congr 1
   rw[drop_eq_getElem_cons (by lia),drop_eq_getElem_cons (by assumption)]
 obtain⟨sa,na,pa⟩:=x
 obtain⟨sb,nb,pb⟩:=y
 rw[e] at c
 obtain⟨b,c1,c2⟩:=c.split
 obtain⟨rfl,ha,ra,c3⟩:=c2
 obtain⟨rfl,hb,rb,c4⟩:=c3
 have l1:=c1.le
 have l4:=c4.le
 have ep:(((pendingOf st).setIfInBounds i (sa,na+nb,pa)).eraseIdxIfInBounds (i+1)).toList=(pendingOf st).toList.take i++(sa,na+nb,pa) :: (pendingOf st).toList.drop (i+2):=by
  rw[Array.toList_eraseIdxIfInBounds,Array.toList_setIfInBounds]
  have ht:((pendingOf st).toList.take i).length=i:=by simp;lia
  have q:=mW ((pendingOf st).toList.take i) ((pendingOf st).toList.drop (i+2)) (sa,na,pa) (sa+na,nb,pb) (sa,na+nb,pa)
  rw[←e,ht] at q
  exact q
 refine kI (O:=O) S.kind S.failed hx hy ra rb ha hb fun st' k1 k2 k3 k4 k5 k6=>h st' ⟨k1,k2,k4.trans S.perm,j1 k4 S.ok,?_⟩ ?_ fun j hj=>k5 j (.inr (by lia))
 ·rw[k3]
  rw[ep]
  refine bH.append (c1.same k4.size_eq fun j _ hj=>k5 j (.inl hj)) ⟨rfl,by lia,?_,?_⟩
  ·rw[←Nat.add_assoc];exact k6
  ·rw[←Nat.add_assoc];exact c4.same k4.size_eq fun j hj _=>k5 j (.inr hj)
 ·rw[k3]
  have q:=congrArg List.length ep
  simp only[Array.length_toList,length_append,length_cons,length_take,length_drop] at q
  rw[q]
  lia
theorem G3 {p:Array (Nat×Nat×Nat)}{i:Nat}(h:i<p.size):p[i]? = some ((p.getD i (0,0,0)).1,(p.getD i (0,0,0)).2.1,(p.getD i (0,0,0)).2.2):=by
 simp[Array.getD,h]
theorem fu {α β:Type}(f:α→α)(g:α→β)(h:∀ x,g (f x)=g x):∀ (l:List α) (i:Nat),(l.modify i f).map g=l.map g
 | [],i=>by simp
 | x :: l,0=>by simp[h]
 | x :: l,i+1=>by simp[fu f g h l i]
theorem iR {Q:Unit→SortSt→Prop}(hk:kindOf st=κ)(hf:failedOf st=none)(hp:pendingOf st=#[])(hok:∀ p∈(arrOf st).toList,O.ok p)(h1:1≤(arrOf st).size)
 (h:∀ st',(arrOf st').Perm (arrOf st)→failedOf st'=none→Run O (arrOf st') 0 (arrOf st').size→Q () st'):wpS (model prog w) A E s sortRuns' Q st:=by
 have S0:SS O (arrOf st) 0 st:=⟨hk,hf,Array.Perm.refl _,hok,by rw[hp];rfl⟩
 rw[sortRuns'_eq]
 refine wpS_bind (wpS_get ?_)
 dsimp only
 generalize hmr:minRun' (arrOf st).size (arrOf st).size 0=mr
 generalize hN:(arrOf st).size=N at *
 have sz:∀ {lo st'},SS O (arrOf st) lo st'→(arrOf st').size=N:=fun S=>S.perm.size_eq.trans hN
 refine wpS_bind (wpS_mono (wpS_forRange (I:=fun x c st'=>∃ lo,c=(none,lo)∧x≤lo∧lo≤N∧SS O (arrOf st) lo st') (Q:=fun c st'=>c=(none,N)∧SS O (arrOf st) N st') ?step ?fin ⟨0,rfl,by lia,by lia,S0⟩) ?post)
 case fin =>
  rintro c st' ⟨lo,rfl,hx,hl,S⟩
  have e:lo=N:=by lia
  subst e
  exact⟨rfl,S⟩
 case post =>
  rintro c st1 ⟨rfl,S1⟩
  dsimp only
  refine wpS_bind (wpS_mono (wpS_forRange (I:=fun x c st'=>c=(none,())∧SS O (arrOf st) N st'∧(pendingOf st').size+x≤N) (Q:=fun c st'=>c=(none,())∧SS O (arrOf st) N st'∧(pendingOf st').size≤1) ?s2 ?f2 ?i2) ?p2)
  case i2 =>
   have:=S1.chain.le
   simp only[Array.length_toList] at this
   exact⟨rfl,S1,by lia⟩
  case f2 =>
   rintro c st' ⟨hc,S,hx⟩
   exact⟨hc,S,by lia⟩
  case p2 =>
   rintro c st' ⟨rfl,S,hx⟩
   refine wpS_pure (h st' S.perm S.failed ?_)
   rw[sz S]
   have c:=S.chain
   have hlen:(pendingOf st').toList.length≤1:=by simpa using hx
   match e:(pendingOf st').toList,hlen,c with
   | [],_,c=>exact absurd (show 0=N from c) (by lia)
   | [(a,n,_)],_,c =>
     obtain⟨rfl,_,r,e2⟩:=c
     have e2':0+n=N:=e2
     rw[←e2'];exact r
   | _ :: _ :: _,hl,_=>simp at hl
  case s2 =>
   rintro x c st' _ hx ⟨rfl,S,hxx⟩
   refine wpS_bind (wpS_get ?_)
   by_cases hle:(pendingOf st').size≤1
   ·rw[if_pos hle]
    exact wpS_pure ⟨rfl,S,hle⟩
   ·rw[if_neg hle]
    have key:∀ i,i+1<(pendingOf st').size→wpS (model prog w) A E s (mergeAt' i) (fun b st2=>b=true∧SS O (arrOf st) N st2∧(pendingOf st2).size+(x+1)≤N) st':=fun i hi =>
     fh S hi fun st2 S2 h2 _=>⟨rfl,S2,by lia⟩
    refine wpS_bind (wpS_mono (key _ ?_) ?_)
    ·have q:∀ (c:Bool) (n:Nat),(if c=true then n-1 else n)≤n:=fun c n=>by split <;> lia
     refine Nat.lt_of_le_of_lt (Nat.succ_le_succ (q _ _)) ?_
     lia
    ·rintro b st2 ⟨rfl,S2,h2⟩
     rw[if_neg (by simp)]
     exact wpS_pure ⟨rfl,S2,h2⟩
 case step =>
  rintro x c st1 _ hx ⟨lo,rfl,hxl,hlN,S1⟩
  dsimp only
  have z1:=sz S1
  by_cases hge:lo≥N
  ·rw[if_pos hge]
   have e:lo=N:=by lia
   subst e
   exact wpS_pure ⟨rfl,S1⟩
  rw[if_neg hge]
  have B1:Bs O st1 lo (lo+(N-lo)) st1:=⟨S1.kind,S1.ok,rfl,S1.failed,Array.Perm.refl _,fun _ _=>rfl⟩
  refine wpS_bind (iS (by lia) (by lia) B1 fun m st2 B2 m1 m2 u2=>?_)
  dsimp only
  have cont:∀ (n:Nat) (st3:SortSt),1≤n→lo+n≤N→kindOf st3=κ→failedOf st3=none→(arrOf st3).Perm (arrOf st1)→pendingOf st3=pendingOf st1→(∀ i,i<lo→(arrOf st3)[i]? = (arrOf st1)[i]?)→Up O (arrOf st3) lo n→SS O (arrOf st) lo st3∧Run O (arrOf st3) lo (lo+n):=by
   intro n st3 n1 n2 q1 q2 q3 q4 q5 q6
   have ok3:∀ p∈(arrOf st3).toList,O.ok p:=j1 q3 S1.ok
   have z3:(arrOf st3).size=N:=q3.size_eq.trans z1
   refine⟨⟨q1,q2,q3.trans S1.perm,ok3,?_⟩,⟨by lia,fun i h1 h2=>ok3 _ (qY (by lia)),fun i j h1 h2 h3=>?_⟩⟩
   ·rw[q4];exact S1.chain.same q3.size_eq fun i _ hi=>q5 i hi
   ·have:=q6 (i-lo) (j-lo) (by lia) (by lia)
    rwa [show lo+(i-lo)=i by lia,show lo+(j-lo)=j by lia] at this
  have push:∀ (n:Nat) (st4:SortSt),1≤n→lo+n≤N→SS O (arrOf st) lo st4→Run O (arrOf st4) lo (lo+n) →
   wpS (model prog w) A E s (do
    modify fun s=>setPending s ((pendingOf s).push (lo,n,0))
    pure (ForInStep.yield ((none,lo+n):Option Unit×Nat))) (fun r st'=>match r with | .done c'=>c'=(none,N)∧SS O (arrOf st) N st' | .yield c'=>∃ lo,c'=(none,lo)∧x+1≤lo∧lo≤N∧SS O (arrOf st) lo st') st4:=by
   intro n st4 n1 n2 S4 r4
   refine wpS_bind (wpS_modify (wpS_pure ⟨lo+n,rfl,by lia,n2,⟨S4.kind,S4.failed,S4.perm,S4.ok,?_⟩⟩))
   show bH O (arrOf st4) ((pendingOf st4).push (lo,n,0)).toList 0 (lo+n)
   rw[Array.toList_push]
   exact S4.chain.append ⟨rfl,by assumption,r4,rfl⟩
  by_cases hlt:m<mr
  ·rw[if_pos hlt]
   refine wpS_bind (wpS_lift (wpAny_rule ⟨rfl,?_⟩))
   have z2:(arrOf st2).size=N:=B2.perm.size_eq.trans z1
   have Bb:Bs O st2 lo (lo+min (N-lo) mr) st2:=⟨B2.kind,B2.ok,rfl,B2.failed,Array.Perm.refl _,fun _ _=>rfl⟩
   refine wpS_bind (gz (by lia) (by lia) Bb u2 fun st3 B3 u3=>?_)
   rw[if_neg (by simp)]
   have n1:1≤min (N-lo) mr:=by lia
   have n2:lo+min (N-lo) mr≤N:=by lia
   obtain⟨S3,r3⟩:=cont (min (N-lo) mr) st3 n1 n2 B3.kind B3.failed (B3.perm.trans B2.perm) (B3.pend.trans B2.pend) (fun i hi=>(B3.oth i (.inl hi)).trans (B2.oth i (.inl hi))) u3
   refine wpS_bind (wpS_get ?_)
   cases hb:(pendingOf st3).back? with
   | none=>exact push (min (N-lo) mr) st3 n1 n2 S3 r3
   | some t =>
     obtain⟨s1,l1,p1⟩:=t
     dsimp only
     refine wpS_bind (wpS_mono (wpS_forRange (I:=fun _ c st'=>c=(none,())∧SS O (arrOf st) lo st'∧Run O (arrOf st') lo (lo+(min (N-lo) mr))) (Q:=fun c st'=>c=(none,())∧SS O (arrOf st) lo st'∧Run O (arrOf st') lo (lo+(min (N-lo) mr))) ?ms ?mf ⟨rfl,S3,r3⟩) ?mp)
     case mf=>exact fun c st' hI=>hI
     case ms =>
      rintro y c st' _ hy ⟨rfl,S',r'⟩
      refine wpS_bind (wpS_get ?_)
      by_cases hz:(pendingOf st').size>1
      ·rw[if_pos hz,G3 (by lia)]
       dsimp only
       split
       ·exact wpS_pure ⟨rfl,S',r'⟩
       ·refine wpS_bind (fh S' (by lia) fun st5 S5 _ ho=>?_)
        rw[if_neg (by simp)]
        exact wpS_pure ⟨rfl,S5,r'.same ((sz S5).trans (sz S').symm) fun j hj _=>ho j hj⟩
      ·rw[if_neg hz]
       exact wpS_pure ⟨rfl,S',r'⟩
     case mp =>
      rintro c st4 ⟨rfl,S4,r4⟩
      dsimp only
      refine wpS_bind (wpS_modify ?_)
      refine push (min (N-lo) mr) _ n1 n2 ⟨S4.kind,S4.failed,S4.perm,S4.ok,?_⟩ r4
      refine S4.chain.pw ?_
      show ((pendingOf st4).modify _ _).toList.map _=_
      rw[Array.toList_modify]
      refine fu _ _ ?_ _ _
      intro x
      rfl
  ·rw[if_neg hlt]
   have n1:1≤m:=m1
   have n2:lo+m≤N:=by lia
   obtain⟨S3,r3⟩:=cont m st2 n1 n2 B2.kind B2.failed B2.perm B2.pend (fun i hi=>B2.oth i (.inl hi)) u2
   refine wpS_bind (wpS_get ?_)
   cases hb:(pendingOf st2).back? with
   | none=>exact push m st2 n1 n2 S3 r3
   | some t =>
     obtain⟨s1,l1,p1⟩:=t
     dsimp only
     refine wpS_bind (wpS_mono (wpS_forRange (I:=fun _ c st'=>c=(none,())∧SS O (arrOf st) lo st'∧Run O (arrOf st') lo (lo+m)) (Q:=fun c st'=>c=(none,())∧SS O (arrOf st) lo st'∧Run O (arrOf st') lo (lo+m)) ?ms ?mf ⟨rfl,S3,r3⟩) ?mp)
     case mf=>exact fun c st' hI=>hI
     case ms =>
      rintro y c st' _ hy ⟨rfl,S',r'⟩
      refine wpS_bind (wpS_get ?_)
      by_cases hz:(pendingOf st').size>1
      ·rw[if_pos hz,G3 (by lia)]
       dsimp only
       split
       ·exact wpS_pure ⟨rfl,S',r'⟩
       ·refine wpS_bind (fh S' (by lia) fun st5 S5 _ ho=>?_)
        rw[if_neg (by simp)]
        exact wpS_pure ⟨rfl,S5,r'.same ((sz S5).trans (sz S').symm) fun j hj _=>ho j hj⟩
      ·rw[if_neg hz]
       exact wpS_pure ⟨rfl,S',r'⟩
     case mp =>
      rintro c st4 ⟨rfl,S4,r4⟩
      dsimp only
      refine wpS_bind (wpS_modify ?_)
      refine push m _ n1 n2 ⟨S4.kind,S4.failed,S4.perm,S4.ok,?_⟩ r4
      refine S4.chain.pw ?_
      show ((pendingOf st4).modify _ _).toList.map _=_
      rw[Array.toList_modify]
      refine fu _ _ ?_ _ _
      intro x
      rfl
end
end TS
namespace TS
open PySem PyProof.Rows
section
variable {prog:Program}{w:World}
theorem qw {A:Around}{E:Value→Shared→Prop}{s:Shared}{κ:SortKind}{st:SortSt}{x y:Keyed}{b:Bool}{Q:Option Bool→SortSt→Prop}(hk:kindOf st=κ)
 (h:∀ (E:Value→Shared→Prop) (Q:Bool→Shared→Prop),Q b s→wpAny (model prog w) A (keyLt' κ x.1 y.1) Q E s) (q:Q (some b) st):wpS (model prog w) A E s (lt' x y) Q st:=by
 rw[lt'_eq]
 refine wpS_bind (wpS_get ?_)
 rw[hk]
 refine wpS_bind (wpS_lift (wpAny_attempt (h _ _ ⟨rfl,?_⟩)))
 exact wpS_pure q
def mY (p:Keyed):Int:=match p.1 with
 | .int a _=>a
 | _=>0
def tS (A:Around)(s:Shared):Cmp oneType' prog w A s where
 ok:=fun p=>∃ a t,p.1=.int a t
 r:=fun p q=>decide (mY p<mY q)
 ask:=fun {E st x y Q} hk hx hy hq=>by
  obtain⟨a,t,ex⟩:=hx
  obtain⟨b,u,ey⟩:=hy
  refine qw hk (b:=decide (mY x<mY y)) (fun E Q q=>?_) hq
  rw[ex,ey,keyLt'_oneType]
  have:decide (mY x<mY y)=decide (a<b):=by unfold mY;rw[ex,ey]
  rw[this] at q
  exact oneLt_int q
 irrefl:=fun a=>by simp
 trans:=fun a b c h1 h2=>by simp only[decide_eq_true_eq] at *;lia
 neg:=fun a b c h=>by simp only[decide_eq_true_eq] at *;lia
def kPair (h:Heap)(p:Keyed):Int×Int:=match p.1 with
 | .ref a=>match h.get? a with
   | some o=>match o.data with
     | .seq xs _=>match xs.toList with
       | [.int x _,.int y _]=>(x,y)
       | _=>(0,0)
     | _=>(0,0)
   | none=>(0,0)
 | _=>(0,0)
def lexP (p q:Int×Int):Bool:=if p.1=q.1 then decide (p.2<q.2) else decide (p.1<q.1)
theorem kPair_of {h:Heap}{p:Keyed}{a:Addr}{o:Obj}{x y:Int}{t u:Tok}{n:Nat}(e:p.1=.ref a)(ho:h.get? a=some o)(hd:o.data=.seq #[.int x t,.int y u] n):kPair h p=(x,y):=by
 unfold kPair
 rw[e]
 dsimp only
 rw[ho]
 dsimp only
 rw[hd]
def IsPair (h:Heap)(v:Value):Prop:=∃ a o x t y u n,v=.ref a∧h.get? a=some o∧o.cls=.type "tuple" ∧o.data=.seq #[.int x t,.int y u] n
theorem rG {A:Around}{E:Value→Shared→Prop}{s:Shared}{p q:Keyed}{Q:Bool→Shared→Prop}(hp:IsPair s.heap p.1)(hq:IsPair s.heap q.1)(h:Q (lexP (kPair s.heap p) (kPair s.heap q)) s) :
 wpAny (model prog w) A (keyLt' (tuples' true) p.1 q.1) Q E s:=by
 obtain⟨a,o,x,t,y,u,n,e1,ho,hc,hd⟩:=hp
 obtain⟨b,o',x',t',y',u',n',e1',ho',hc',hd'⟩:=hq
 rw[kPair_of e1 ho hd,kPair_of e1' ho' hd'] at h
 rw[e1,e1']
 refine PySem.W.kat_lt ho hd ho' hd' ?_
 show PySem.W.KatLex prog w A true _ Q [(.int x t,.int x' t'),(.int y u,.int y' u')] 0 s
 refine PySem.W.kat_cons (wpAny_eqBool_int (PySem.W.kat_go (fun e=>?_) (fun e=>?_)))
 ·have ex:x=x':=by simpa using e
  subst ex
  refine PySem.W.kat_yes (PySem.W.kat_cons (wpAny_eqBool_int (PySem.W.kat_go (fun e2=>?_) (fun e2=>?_))))
  ·have ey:y=y':=by simpa using e2
   subst ey
   refine PySem.W.kat_yes (PySem.W.kat_nil ?_)
   have:lexP (x,y) (x,y)=decide (((#[.int x t,.int y u]:Array Value)).size<((#[.int x t',.int y u']:Array Value)).size):=by simp[lexP]
   rw[this] at h
   exact h
  ·refine PySem.W.kat_no ?_
   refine PySem.W.kat_one _ _ (lt_int ?_)
   have:lexP (x,y) (x,y')=decide (y<y'):=by simp[lexP]
   rw[this] at h
   exact h
 ·have ex:¬ x=x':=by simpa using e
  refine PySem.W.kat_no (oneLt_int ?_)
  have:lexP (x,y) (x',y')=decide (x<x'):=by simp[lexP,ex]
  rw[this] at h
  exact h
def se (A:Around)(s:Shared):Cmp (tuples' true) prog w A s where
 ok:=fun p=>IsPair s.heap p.1
 r:=fun p q=>lexP (kPair s.heap p) (kPair s.heap q)
 ask:=fun {E st x y Q} hk hx hy hq=>qw hk (fun E Q q=>rG hx hy q) hq
 irrefl:=fun a=>by simp[lexP]
 trans:=fun a b c h1 h2=>by
  generalize kPair s.heap a=p at *
  generalize kPair s.heap b=q at *
  generalize kPair s.heap c=r at *
  unfold lexP at *
  split at h1 <;> split at h2 <;> split <;> simp only[decide_eq_true_eq] at * <;> lia
 neg:=fun a b c h=>by
  generalize kPair s.heap a=p at *
  generalize kPair s.heap b=q at *
  generalize kPair s.heap c=r at *
  unfold lexP at *
  split at h <;> split <;> split <;> simp only[decide_eq_true_eq] at * <;> lia
end
section
variable {prog:Program}{w:World}{A:Around}{E:Value→Shared→Prop}{s:Shared}
def jL (prog:Program)(w:World)(a:Addr)(h0:Heap)(vs:List Value)(R:Value→Value→Bool):Prop :=
 ∀ (A:Around) (s:Shared),(∀ b o,b≠a→h0.get? b=some o→s.heap.get? b=some o)→2≤vs.length →
   ∃ (κ:SortKind) (O:Cmp κ prog w A s),(∀ p∈(pairsOf vs).toList,O.ok p)∧(∀ (E:Value→Shared→Prop) (Q:SortKind→Shared→Prop),Q κ s→wpAny (model prog w) A (keyKind' vs.toArray) Q E s) ∧
     ∀ u v,u∈vs→v∈vs→O.r (u,u) (v,v)=R u v
theorem ga {vs:List Value}{p:Keyed}(h:p∈(pairsOf vs).toList):p.1∈vs∧p.1=p.2:=by
 rw[pairsOf_toList] at h
 obtain⟨i,hi⟩:=getElem?_of_mem h
 rw[List.getElem?_zip_eq_some] at hi
 refine⟨mem_of_getElem? hi.1,?_⟩
 have:=hi.1.symm.trans hi.2
 exact Option.some.inj this
theorem iY {a:Addr}{vs:List Value}{n:Nat}{R:Value→Value→Bool}{P:PySem.Fin→Shared→Prop}(ho:s.heap.get? a=some (seqObj "list" vs.toArray n))(hz:vs.length≤sizeLine)(hR:∀ v,R v v=false)(hS:jL prog w a s.heap vs R)
 (h:∀ (out:List Value) (h':Heap) (n':Nat),out.Perm vs→out.Pairwise (fun u v=>R v u=false)→(∀ b o,b≠a→s.heap.get? b=some o→h'.get? b=some o)→h'.get? a=some (seqObj "list" out.toArray n')→P (.done (.ret .none)) { s with heap:=h' }) :
 wpAny (model prog w) A (Builtin.«list.sort» ⟨[.ref a],[]⟩) P E s:=by
 rw[list_sort_plain]
 have ha:a<s.heap.objs.size:=Heap.lt_size ho
 refine wpAny_bind (listItems_at ho rfl ?_)
 refine wpAny_bind (listUpdate_at ho rfl ?_ (by rw[size_toArray];exact hz) (Nat.zero_le _))
 obtain⟨e1,ho1⟩:∃ e1,(s.heap.update a (Obj.mapSeq fun _=>#[])).get? a=some (seqObj "list" #[] e1):=⟨_,get?_update_seq ho (fun _=>#[])⟩
 refine wpAny_bind (seqEpoch_at ho1 rfl ?_)
 refine wpAny_bind (wpAny_newTuple ?_ (by show vs.length≤_;exact hz))
 refine wpAny_bind (wpAny_newList ?_ (Nat.zero_le _))
 refine wpAny_holding ?_
 have ho6:(((s.heap.update a (Obj.mapSeq fun _=>#[])).push (seqObj "tuple" vs.toArray 0)).push (seqObj "list" #[] 0)).get? a=some (seqObj "list" #[] e1):=by
  rw[Heap.get?_push_ne _ _ _ (by rw[size_push',Heap.size_update];exact Nat.ne_of_lt (Nat.lt_succ_of_lt ha)),Heap.get?_push_ne _ _ _ (by rw[Heap.size_update];exact Nat.ne_of_lt ha)]
  exact ho1
 show wpAny (model prog w) A _ P E { s with heap:=((s.heap.update a (Obj.mapSeq fun _=>#[])).push (seqObj "tuple" vs.toArray 0)).push (seqObj "list" #[] 0) }
 have keep:∀ b o,b≠a→s.heap.get? b=some o→(((s.heap.update a (Obj.mapSeq fun _=>#[])).push (seqObj "tuple" vs.toArray 0)).push (seqObj "list" #[] 0)).get? b=some o:=fun b o hb e=>by
  refine Heap.get?_push_of_some _ (Heap.get?_push_of_some _ ?_)
  rw[Heap.get?_update_ne _ _ _ _ hb]
  exact e
 generalize hH6:((s.heap.update a (Obj.mapSeq fun _=>#[])).push (seqObj "tuple" vs.toArray 0)).push (seqObj "list" #[] 0)=H6 at ho6 keep ⊢
 dsimp only
 have hsz:vs.toArray.size=vs.length:=by simp
 have fin:∀ out:List Value,out.Perm vs→out.Pairwise (fun u v=>R v u=false) →
  P (.done (.ret .none)) { s with heap:=H6.update a (Obj.mapSeq fun _=>out.toArray) }:=fun out hp hw =>
  h out _ _ hp hw (fun b o hb e=>by rw[Heap.get?_update_ne _ _ _ _ hb];exact keep b o hb e) (get?_update_seq ho6 fun _=>out.toArray)
 by_cases h2:vs.toArray.size<2
 ·rw[if_pos h2,if_pos h2]
  refine wpAny_bind (wpAny_pure ?_)
  rw[StateT.run_pure]
  refine wpAny_bind (wpAny_pure ?_)
  dsimp only
  have e0:(vs.toArray.zip vs.toArray).map (·.2)=vs.toArray:=by
   apply Array.toList_inj.mp
   have hz:=map_snd_zip (l₁:=vs) (l₂:=vs) (Nat.le_refl _)
   simpa using hz
  refine wpAny_bind (seqEpoch_at ho6 rfl ?_)
  refine wpAny_bind (listUpdate_at ho6 rfl ?_ (Nat.zero_le _) (by show ((vs.toArray.zip vs.toArray).map (·.2)).size≤_;rw[e0,hsz];lia))
  simp only[bne_self_eq_false,Bool.false_eq_true,if_false]
  refine wpAny_pure ?_
  show P _ { s with heap:=H6.update a (Obj.mapSeq fun _=>(vs.toArray.zip vs.toArray).map (·.2)) }
  rw[e0]
  refine fin vs (List.Perm.refl _) ?_
  have h2':vs.length<2:=by assumption
  clear fin hS h ho hz ho6 keep hH6 e0
  match vs,h2' with
  | [],_=>exact List.Pairwise.nil
  | [v],_=>exact List.pairwise_singleton _ _
  | _ :: _ :: _,h2'=>exact absurd h2' (by simp)
 ·rw[if_neg h2,if_neg h2]
  have h2':2≤vs.length:=by lia
  obtain⟨κ,O,hok,hkk,hr⟩:=hS A { s with heap:=H6 } keep h2'
  refine wpAny_bind (hkk _ _ ?_)
  refine wpAny_bind (wpAny_mono (iR (O:=O) (st:=SortSt.mk' κ (vs.toArray.zip vs.toArray) #[] 7 none)
   (Q:=fun _ st'=>(arrOf st').Perm (pairsOf vs)∧failedOf st'=none∧Run O (arrOf st') 0 (arrOf st').size)
   rfl rfl rfl hok (by show 1≤(pairsOf vs).size;rw[pairsOf_size];lia) fun st' a1 a2 a3=>⟨a1,a2,a3⟩) ?_ fun _ _ e=>e)
  rintro⟨⟨⟩,st'⟩ s' ⟨rfl,hp,hf,hs⟩
  dsimp only
  have hpl:(arrOf st').toList.Perm (vs.zip vs):=by
   have:=hp.toList
   rwa [pairsOf_toList] at this
  have hout:((arrOf st').map (·.2)).toList.Perm vs:=by
   rw[Array.toList_map]
   have:=hpl.map (·.2)
   rwa [show (vs.zip vs).map (·.2)=vs from map_snd_zip (Nat.le_refl _)] at this
  refine wpAny_bind (seqEpoch_at ho6 rfl ?_)
  refine wpAny_bind (listUpdate_at ho6 rfl ?_ (Nat.zero_le _) (by
   show ((arrOf st').map (·.2)).size≤_
   rw[←Array.length_toList,hout.length_eq];lia))
  rw[hf]
  simp only[bne_self_eq_false,Bool.false_eq_true,if_false]
  refine wpAny_pure ?_
  have e0:(arrOf st').map (·.2)=((arrOf st').map (·.2)).toList.toArray:=(Array.toArray_toList).symm
  show P _ { s with heap:=H6.update a (Obj.mapSeq fun _=>(arrOf st').map (·.2)) }
  rw[e0]
  refine fin _ hout ?_
  rw[pairwise_iff_getElem]
  intro i j hi hj hij
  have hsz':((arrOf st').map (·.2)).toList.length=(arrOf st').size:=by simp
  have hi':i<(arrOf st').size:=by lia
  have hj':j<(arrOf st').size:=by lia
  have q:=hs.srt i j (Nat.zero_le _) (Nat.le_of_lt hij) hj'
  have m:∀ k (hk:k<(arrOf st').size),∃ v,v∈vs∧G (arrOf st') k=(v,v)∧((arrOf st').map (·.2)).toList[k]'(by lia)=v:=fun k hk=>by
   have g:=du hk
   have mem:G (arrOf st') k∈(pairsOf vs).toList:=by
    rw[pairsOf_toList]
    refine hpl.mem_iff.mp ?_
    exact mem_of_getElem? (by rw[Array.getElem?_toList];exact g)
   obtain⟨m1,m2⟩:=ga mem
   refine⟨(G (arrOf st') k).1,m1,?_,?_⟩
   ·rw[Prod.ext_iff];exact⟨rfl,m2.symm⟩
   ·have e:(arrOf st')[k]=G (arrOf st') k:=by
     have:=g
     rw[Array.getElem?_eq_getElem hk] at this
     exact Option.some.inj this
    simp only[Array.toList_map,getElem_map,Array.getElem_toList]
    rw[e,m2]
  obtain⟨u,mu,gu,eu⟩:=m i hi'
  obtain⟨v,mv,gv,ev⟩:=m j hj'
  rw[eu,ev,←hr v u mv mu]
  unfold Cmp.le at q
  rw[gu,gv] at q
  exact q
theorem eC {D:Addr}{vs:List Value}{n:Nat}{R:Value→Value→Bool}{Q:Value→Shared→Prop}(ho:s.heap.get? D=some (seqObj "list" vs.toArray n))(hz:vs.length≤sizeLine)(hR:∀ v,R v v=false)(hS:jL prog w D s.heap vs R)
 (h:∀ (out:List Value) (h':Heap) (n':Nat),out.Perm vs→out.Pairwise (fun u v=>R v u=false)→(∀ b o,b≠D→s.heap.get? b=some o→h'.get? b=some o)→h'.get? D=some (seqObj "list" out.toArray n')→Q .none { s with heap:=h' }) :
 wpAny (model prog w) A (call (.builtin "list.sort") [.ref D]) Q E s :=
 wpAny_call_entry slot_list_sort ⟨_,ho,rfl⟩ entry_list_sort (iY ho hz hR hS fun out h' n' a1 a2 a3 a4=>⟨_,rfl,h out h' n' a1 a2 a3 a4⟩) (args_list_sort _)
theorem sorted_by {r:Addr}{Q:Value→Shared→Prop}(R:Value→Value→Bool)(hR:∀ v,R v v=false)
 (h:wpAny (model prog w) A.in1 (collect (.ref r)) (fun vs s1=>vs.length≤sizeLine∧jL prog w s1.heap.objs.size s1.heap vs R ∧
  ∀ (out:List Value) (h':Heap) (n':Nat),out.Perm vs→out.Pairwise (fun u v=>R v u=false)→(∀ b o,s1.heap.get? b=some o→h'.get? b=some o)→h'.get? s1.heap.objs.size=some (seqObj "list" out.toArray n') →
    Q (.ref s1.heap.objs.size) { s1 with heap:=h' }) E s) :
 wpAny (model prog w) A (call (.builtin "sorted") [.ref r]) Q E s:=by
 refine Calls.call_function_entry kind_sorted plain_sorted entry_sorted (args_sorted1 _) ?_
 unfold Builtin.«sorted»
 refine wpAny_bind (m:=checkCount "sorted" 1 1 _) (wpAny_pure ?_)
 refine wpAny_bind (wpAny_mono h (fun vs s1 ⟨hz,hS,k⟩=>?_) fun _ _ e=>e)
 refine wpAny_bind (wpAny_newList ?_ hz)
 refine wpAny_bind (wpAny_holding (eC (s:={ s1 with heap:=s1.heap.push (seqObj "list" vs.toArray 0) }) (D:=s1.heap.objs.size) (n:=0) (Heap.get?_push_size _ rfl) hz hR (fun A' s' hk h2=>hS A' s' (fun b o hb e=>hk b o hb (Heap.get?_push_of_some _ e)) h2)
  fun out h' n' a1 a2 a3 a4=>?_))
 exact wpAny_pure ⟨_,rfl,k out h' n' a1 a2 (fun b o e=>a3 b o (Nat.ne_of_lt (Heap.lt_size e)) (Heap.get?_push_of_some _ e)) a4⟩
end
section
variable {prog:Program}{w:World}
def rInt (u v:Value):Bool:=match u,v with
 | .int a _,.int b _=>decide (a<b)
 | _,_=>false
theorem rInt_irr (v:Value):rInt v v=false:=by
 unfold rInt;cases v <;> simp
theorem sorts_ints {a:Addr}{h0:Heap}{vs:List Value}{ns:List Int}(hI:IntsAre vs ns):jL prog w a h0 vs rInt:=fun A s _ h2=>by
 have hm:∀ v∈vs,∃ n t,v=.int n t:=fun v hv=>by
  obtain⟨i,hi⟩:=getElem?_of_mem hv
  obtain⟨t,e⟩:=IntsAre.int_at hI i v hi
  exact⟨_,t,e⟩
 refine⟨oneType',tS A s,fun p hp=>?_,fun E Q q=>?_,fun u v hu hv=>?_⟩
 ·obtain⟨m,_⟩:=ga hp
  exact hm _ m
 ·match vs,h2,hI with
  | v₁ :: v₂ :: rest,_,hI=>rw[keyKind_ints hI];exact wpAny_pure q
 ·obtain⟨n,t,rfl⟩:=hm u hu
  obtain⟨n',t',rfl⟩:=hm v hv
  rfl
def rPair (h:Heap)(u v:Value):Bool:=lexP (kPair h (u,u)) (kPair h (v,v))
theorem rPair_irr (h:Heap)(v:Value):rPair h v v=false:=by unfold rPair;simp[lexP]
theorem sorts_pairs {a:Addr}{g h0:Heap}{vs:List Value}(hg:∀ b o,g.get? b=some o→h0.get? b=some o)(hI:∀ v∈vs,IsPair g v)(hna:∀ v∈vs,v≠.ref a):jL prog w a h0 vs (rPair g):=fun A s hk h2=>by
 have hp:∀ v∈vs,IsPair s.heap v∧kPair s.heap (v,v)=kPair g (v,v):=fun v hv=>by
  obtain⟨b,o,x,t,y,u,n,e1,ho,hc,hd⟩:=hI v hv
  have hb:b≠a:=fun z=>hna v hv (by rw[e1,z])
  have ho':=hk b o hb (hg b o ho)
  exact⟨⟨b,o,x,t,y,u,n,e1,ho',hc,hd⟩,by rw[kPair_of (p:=(v,v)) e1 ho hd,kPair_of (p:=(v,v)) e1 ho' hd]⟩
 refine⟨tuples' true,se A s,fun p hpp=>?_,fun E Q q=>?_,fun u v hu hv=>?_⟩
 ·obtain⟨m,_⟩:=ga hpp
  exact (hp _ m).1
 ·have tt:∀ l:List Value,(∀ v∈l,IsPair s.heap v)→∃ fs,PySem.W.KatTups s.heap l fs∧fs.length=l.length∧∀ f∈fs,∃ x t,f=.int x t:=fun l=>by
   induction l with
   | nil=>exact fun _=>⟨[],.nil,rfl,fun _ h=>nomatch h⟩
   | cons v l ih =>
     intro hl
     obtain⟨fs,h1,h2,h3⟩:=ih fun x hx=>hl x (mem_cons_of_mem _ hx)
     obtain⟨b,o,x,t,y,u,n,e1,ho,hc,hd⟩:=hl v mem_cons_self
     subst e1
     refine⟨.int x t :: fs,.cons ho hc hd rfl h1,by simp[h2],fun f hf=>?_⟩
     rcases mem_cons.mp hf with e | hf
     ·exact⟨x,t,e⟩
     ·exact h3 f hf
  obtain⟨fs,h1,hl,h3⟩:=tt vs fun v hv=>(hp v hv).1
  refine PySem.W.kat_kind (T:=.type "int") h1 (by lia) (fun v hv=>?_) rfl q
  obtain⟨x,t,rfl⟩:=h3 v hv
  exact PySem.W.Looks.now
 ·show lexP _ _=lexP _ _
  rw[(hp u hu).2,(hp v hv).2]
end
end TS
namespace L2
open PySem PySem.Spec PyProof.Rows
def ivI:Value→Int
 | .int a _=>a
 | _=>0
theorem fA:∀ {out:List Value},(∀ v∈out,∃ n t,v=Value.int n t)→aB ((out.map ivI).map V.int) out
 | [],_=>.nil
 | v :: r,h=>by
   obtain⟨n,t,rfl⟩:=h v mem_cons_self
   exact .cons ⟨t,rfl⟩ (fA fun u hu=>h u (mem_cons_of_mem _ hu))
theorem lV:∀ {vs:List Value} {ns:List Int},IntsAre vs ns→vs.map ivI=ns∧∀ v∈vs,∃ n t,v=Value.int n t
 | _,_,.nil=>⟨rfl,fun _ h=>nomatch h⟩
 | _,_,.cons n t h=>by
   obtain⟨h1,h2⟩:=lV h
   refine⟨by simp[ivI,h1],fun v hv=>?_⟩
   rcases mem_cons.mp hv with e | hv
   ·exact⟨n,t,e⟩
   ·exact h2 v hv
theorem eF:∀ {vs:List Value} {ns:List Int},vs.length=ns.length→(∀ j v,vs[j]? = some v→∃ t,v=Value.int (ns.getD j 0) t)→IntsAre vs ns
 | [],[],_,_=>.nil
 | [],_ :: _,h,_=>by simp at h
 | _ :: _,[],h,_=>by simp at h
 | v :: vs,n :: ns,h,k=>by
   obtain⟨t,e⟩:=k 0 v rfl
   have e':v=Value.int n t:=e
   subst e'
   exact .cons n t (eF (by simpa using h) fun j u hj=>k (j+1) u (by simpa using hj))
theorem ij {vs out:List Value}{ns:List Int}(hI:IntsAre vs ns)(hp:out.Perm vs)(hw:out.Pairwise fun u v=>TS.rInt v u=false):∃ ms:List Int,aB (ms.map V.int) out∧ms.Perm ns∧ms.Pairwise (·≤·):=by
 obtain⟨h1,h2⟩:=lV hI
 have h3:∀ v∈out,∃ n t,v=Value.int n t:=fun v hv=>h2 v (hp.mem_iff.mp hv)
 refine⟨out.map ivI,fA h3,h1▸hp.map ivI,?_⟩
 rw[pairwise_map]
 refine hw.imp_of_mem fun {a b} ha hb q=>?_
 obtain⟨n,t,rfl⟩:=h3 a ha
 obtain⟨m,u,rfl⟩:=h3 b hb
 have q':decide (m<n)=false:=q
 have:=of_decide_eq_false q'
 show n≤m
 lia
theorem fo {α β:Type}{f:α→β}:∀ {l m:List β},l.Perm m→∀ es:List α,m=es.map f→∃ fs:List α,fs.Perm es∧l=fs.map f:=by
 intro l m h
 induction h with
 | nil=>intro es e;exact⟨es,.refl _,e⟩
 | cons x h ih =>
   intro es e
   cases es with
   | nil=>simp at e
   | cons y es =>
     simp only[map_cons,List.cons.injEq] at e
     obtain⟨fs,h1,h2⟩:=ih es e.2
     exact⟨y :: fs,h1.cons y,by simp[e.1,h2]⟩
 | swap x y l =>
   intro es e
   match es,e with
   | [],e=>simp at e
   | [_],e=>simp at e
   | a :: b :: es,e =>
     simp only[map_cons,List.cons.injEq] at e
     exact⟨b :: a :: es,.swap a b es,by simp[e.1,e.2.1,e.2.2]⟩
 | trans h1 h2 i1 i2 =>
   intro es e
   obtain⟨fs,p1,e1⟩:=i2 es e
   obtain⟨gs,p2,e2⟩:=i1 fs e1
   exact⟨gs,p2.trans p1,e2⟩
section
variable {X:Cx}
theorem aS.there {P:Program}{w:World}{H:Hp}{h:Heap}{a:Addr}{o:HO}(x:aS P w H h a o):∃ ob,h.get? a=some ob:=by
 cases o with
 | lst xs=>obtain⟨_,_,_,_,e⟩:=x;exact⟨_,e⟩
 | tup xs=>obtain⟨_,_,_,o,e,_⟩:=x;exact⟨_,e⟩
 | dK kvs=>obtain⟨_,_,_,_,o,_,_,e,_⟩:=x;exact⟨_,e⟩
 | dT kvs=>obtain⟨_,_,_,_,o,_,_,e,_⟩:=x;exact⟨_,e⟩
 | set S n=>obtain⟨o,_,_,_,e,_⟩:=x;exact⟨_,e⟩
 | ins C dx fs=>obtain⟨_,_,_,e,_⟩:=x;exact⟨_,e⟩
 | own y=>obtain⟨_,e⟩:=x;exact⟨_,e⟩
 | xd fs=>obtain⟨_,⟨_,_,_,e,_⟩,_⟩:=x;exact⟨_,e⟩
 | rng lo hi=>obtain⟨_,_,_,e⟩:=x;exact⟨_,e⟩
 | frz ob u=>obtain⟨e,_⟩:=x;exact⟨_,e⟩
 | tbl ps=>exact⟨_,(show h.get? a=some _ from x)⟩
 | met f y=>exact⟨_,(show h.get? a=some _ from x)⟩
 | ext φ=>obtain⟨_,⟨_,e⟩,_⟩:=x;exact⟨_,e⟩
theorem eD {pins:List (Addr×Obj)}{σ:St}{H:Hp}{s:Shared}{Q:VK}{h':Heap}{D:Addr}{out:List Value}{ys:List V}{n' tk:Nat}(I:Inv X pins σ H s)(hk:∀ b o,s.heap.get? b=some o→h'.get? b=some o)(hD:∀ b o,s.heap.get? b=some o→b<D)
 (he:h'.get? D=some (seqObj "list" out.toArray n')) (rv:aB ys out) (hz:ys.length≤sizeLine) (q:∀ H2,New H D (.lst ys) H2→Q (.ref D) H2):EP X pins σ Q (.ref D) { s with heap:=h',toks:=tk }:=by
 have hn:H D=none:=by
  cases e:H D with
  | none=>rfl
  | some u =>
    obtain⟨ob,e2⟩:=(I.hok D u e).there
    exact absurd (hD D ob e2) (Nat.lt_irrefl _)
 obtain⟨m,⟨oL,_,_,eL,_⟩,_⟩:=I.loc
 have hL:=hD _ _ eL
 refine⟨.ref D,upd H D (.lst ys),(I.kept (h':=h') (t':=tk) hk).track hn (.inr (Nat.le_trans I.ok.above (Nat.le_of_lt hL))) (Nat.ne_of_gt hL) (fun x c e=>?_) (fun p hp=>?_) ⟨hz,out,n',rv,he⟩,rfl,q _ (.upd hn)⟩
 ·obtain⟨v,⟨oc,e2,_⟩⟩:=I.cell x c e
  exact Nat.ne_of_lt (hD _ _ e2)
 ·exact Nat.ne_of_lt (hD _ _ (I.pin p hp).1)
def sV:List V→Hp→VK→Prop:=fun xs H Q=>∃ p ns,xs=[.ref p]∧Rd H p (.lst (ns.map V.int))∧∀ (l:Addr) (ms:List Int) H2,ms.Perm ns→ms.Pairwise (·≤·)→New H l (.lst (ms.map V.int)) H2→Q (.ref l) H2
theorem be {h:Heap}{o:Obj}{f:Obj→Obj}:∀ b u,h.get? b=some u→((h.push o).update h.objs.size f).get? b=some u:=fun b u e=>by
 rw[Heap.get?_update_ne _ _ _ _ (Nat.ne_of_lt (Heap.lt_size e))]
 exact Heap.get?_push_of_some _ e
theorem oA:bQ X (.builtin "sorted") sV:=by
 intro pins s σ H xs us Q I r h
 obtain⟨p,ns,rfl,hp,q⟩:=h
 obtain⟨u,rfl,ru⟩:=dL r
 cases ru
 obtain⟨its,rv,pl,hz⟩:=I.list (.inl hp)
 have hI:=iy rv
 have hl:=rv.length
 refine TS.sorted_by TS.rInt TS.rInt_irr (collect_list pl.isList ⟨by lia,TS.sorts_ints hI,fun out h' n' a1 a2 a3 a4=>?_⟩ (by lia))
 obtain⟨ms,v1,v2,v3⟩:=ij hI a1 a2
 have hms:(ms.map V.int).length≤sizeLine:=by
  rw[v1.length,a1.length_eq];lia
 exact eD (s:=s) (tk:=s.toks) I (fun b o e=>a3 b o (be b o e)) (fun b o e=>Heap.lt_size (be b o e)) a4 v1 hms fun H2 n=>q _ ms H2 v2 v3 n
def sW:List V→Hp→VK→Prop:=fun xs H Q=>∃ p kvs ns,xs=[.ref p]∧Rd H p (.dK kvs)∧kvs.map (·.1)=ns.map Sum.inl∧∀ (l:Addr) (ms:List Int) H2,ms.Perm ns→ms.Pairwise (·≤·)→New H l (.lst (ms.map V.int)) H2→Q (.ref l) H2
theorem eM (hc:X.calm=true):bQ X (.builtin "sorted") sW:=by
 intro pins s σ H xs us Q I r h
 obtain⟨p,kvs,ns,rfl,hp,hk,q⟩:=h
 obtain⟨u,rfl,ru⟩:=dL r
 cases ru
 obtain⟨hz,hsys,vs,kv,hd⟩:=eI I.hok hp
 obtain⟨ep,hat⟩:=hd.dictAt
 have hl:kvs.length=vs.length:=kv.length
 have hkeys:vs.map (·.1)=ns.map Sum.inl:=kv.keys▸hk
 have hn:ns.length=vs.length:=by
  have:=congrArg List.length hkeys
  simpa using this.symm
 refine TS.sorted_by TS.rInt TS.rInt_irr (PySem.W.kdu_collect (A:=X.A.in1) (PySem.W.kdl_dict (knd:=aO X.prog X.w) (kvs:=vs) (ep:=ep) hsys) (I.ok.hd hc) hat (by lia) fun h1 tk acc hk1 hacc=>?_)
 have hI:IntsAre acc.toList ns:=by
  refine eF (by rw[Array.length_toList,hacc.1];lia) fun j v e=>?_
  obtain⟨k,x,e1,e2⟩:=hacc.2 j v (by rw[←Array.getElem?_toList];exact e)
  have e3:(vs.map (·.1))[j]? = some k:=by rw[getElem?_map,e1];rfl
  rw[hkeys,getElem?_map] at e3
  cases e4:ns[j]? with
  | none=>rw[e4] at e3;simp at e3
  | some m =>
    rw[e4] at e3
    have e5:Sum.inl m=k:=by simpa using e3
    subst e5
    obtain⟨t,e6⟩:=Value.isInt_shape (k:=m) (v:=v) e2
    refine⟨t,?_⟩
    rw[getD_eq_getElem?_getD,e4]
    exact e6
 have hla:acc.toList.length=vs.length:=by rw[Array.length_toList];exact hacc.1
 refine⟨by lia,TS.sorts_ints hI,fun out h' n' a1 a2 a3 a4=>?_⟩
 obtain⟨ms,v1,v2,v3⟩:=ij hI a1 a2
 have hms:(ms.map V.int).length≤sizeLine:=by
  rw[v1.length,a1.length_eq];lia
 exact eD (s:=s) (tk:=tk) I (fun b o e=>a3 b o (hk1 b o e)) (fun b o e=>Heap.lt_size (hk1 b o e)) a4 v1 hms fun H2 n=>q _ ms H2 v2 v3 n
def sU:List V→Hp→VK→Prop:=fun xs H Q=>∃ (p:Addr) (es:List (Addr×Int×Int)),xs=[.ref p]∧Rd H p (.lst (es.map fun e=>V.ref e.1))∧(∀ e∈es,Rd H e.1 (.tup [.int e.2.1,.int e.2.2])) ∧
 ∀ (l:Addr) (fs:List (Addr×Int×Int)) H2,fs.Perm es→fs.Pairwise (fun e f=>TS.lexP f.2 e.2=false)→New H l (.lst (fs.map fun e=>V.ref e.1)) H2→Q (.ref l) H2
theorem jf:∀ {es:List (Addr×Int×Int)} {us:List Value},aB (es.map fun e=>V.ref e.1) us→us=es.map fun e=>Value.ref e.1
 | [],_,.nil=>rfl
 | e :: es,_,.cons r t=>by
   have r':_=Value.ref e.1:=r
   rw[r',jf t]
   rfl
theorem fi:∀ (es:List (Addr×Int×Int)),aB (es.map fun e=>V.ref e.1) (es.map fun e=>Value.ref e.1)
 | []=>.nil
 | e :: es=>.cons rfl (fi es)
theorem mH:bQ X (.builtin "sorted") sU:=by
 intro pins s σ H xs us Q I r h
 obtain⟨p,es,rfl,hp,hes,q⟩:=h
 obtain⟨u,rfl,ru⟩:=dL r
 cases ru
 obtain⟨its,rv,pl,hz⟩:=I.list (.inl hp)
 have hl:=rv.length
 have hits:=jf rv
 have hpair:∀ e∈es,TS.IsPair s.heap (.ref e.1)∧TS.kPair s.heap (.ref e.1,.ref e.1)=e.2:=fun e he=>by
  obtain⟨z,us2,r2,o,ho,hcl,n,hd⟩:=(hes e he).ok I.hok
  obtain⟨u1,u2,rfl,q1,q2⟩:=cS r2
  obtain⟨t,rfl⟩:=q1
  obtain⟨t',rfl⟩:=q2
  exact⟨⟨e.1,o,e.2.1,t,e.2.2,t',n,rfl,ho,hcl,hd⟩,TS.kPair_of rfl ho hd⟩
 have hval:∀ v∈its,∃ e∈es,v=.ref e.1:=fun v hv=>by
  rw[hits] at hv
  obtain⟨e,he,rfl⟩:=mem_map.mp hv
  exact⟨e,he,rfl⟩
 refine TS.sorted_by (TS.rPair s.heap) (TS.rPair_irr _) (collect_list pl.isList ⟨by lia,TS.sorts_pairs (g:=s.heap) be (fun v hv=>?_) (fun v hv z=>?_),fun out h' n' a1 a2 a3 a4=>?_⟩ (by lia))
 ·obtain⟨e,he,rfl⟩:=hval v hv
  exact (hpair e he).1
 ·obtain⟨e,he,rfl⟩:=hval v hv
  obtain⟨⟨b,o,_,_,_,_,_,e1,ho,_⟩,_⟩:=hpair e he
  have hb:e.1=b:=by injection e1
  have z':e.1=((s.heap.push (seqObj "list" #[] 0)).update s.heap.objs.size (Obj.mapSeq (·++its.toArray))).objs.size:=by injection z
  rw[Heap.size_update,size_push',hb] at z'
  have hlt:b<s.heap.objs.size:=Heap.lt_size ho
  rw[z'] at hlt
  exact absurd (Nat.lt_trans (Nat.lt_succ_self _) hlt) (Nat.lt_irrefl _)
 ·rw[hits] at a1
  obtain⟨fs,p1,e1⟩:=fo a1 es rfl
  subst e1
  have hw:fs.Pairwise (fun e f=>TS.lexP f.2 e.2=false):=by
   rw[pairwise_map] at a2
   refine a2.imp_of_mem fun {x y} hx hy qq=>?_
   have q2:TS.lexP (TS.kPair s.heap (.ref y.1,.ref y.1)) (TS.kPair s.heap (.ref x.1,.ref x.1))=false:=qq
   rw[(hpair x (p1.mem_iff.mp hx)).2,(hpair y (p1.mem_iff.mp hy)).2] at q2
   exact q2
  have hms:(fs.map fun e=>V.ref e.1).length≤sizeLine:=by
   rw[length_map,p1.length_eq]
   rw[length_map] at hz
   exact hz
  exact eD (s:=s) (tk:=s.toks) I (fun b o e=>a3 b o (be b o e)) (fun b o e=>Heap.lt_size (be b o e)) a4 (fi fs) hms fun H2 n=>q _ fs H2 p1 hw n
end
end L2
namespace L2
open PySem PySem.Spec PyProof.Rows
theorem mj:bootBuiltins "range" = some (.type "range"):=by decide +kernel
end L2
namespace SW
open PySem PySem.Spec PyProof.Rows
def Ris (xs:Array Nat):Prop:=xs.toList.Pairwise (· < ·)
theorem g7 {xs:Array Nat}(h:Ris xs){i j:Nat}(hij:i<j)(hj:j<xs.size):xs[i]'(by lia)<xs[j]:=by
 have:=(pairwise_iff_getElem.mp h) i j (by simpa using (by lia:i<xs.size)) (by simpa using hj) hij
 simpa using this
theorem kr {xs:Array Nat}{j:Nat}(h:Ris xs):∀ (fuel lo hi:Nat),hi≤xs.size→lo≤hi→hi-lo≤fuel→(∀ i (hi':i<xs.size),i<lo→xs[i]<j)→(∀ i (hi':i<xs.size),hi≤i→j≤xs[i]) →
 SetTable.below.go xs j fuel lo hi≤xs.size∧(∀ i (hi':i<xs.size),i<SetTable.below.go xs j fuel lo hi→xs[i]<j)∧(∀ i (hi':i<xs.size),SetTable.below.go xs j fuel lo hi≤i→j≤xs[i])
 | 0,lo,hi,h1,h2,h3,h4,h5=>by
   have e:lo=hi:=by lia
   subst e
   unfold SetTable.below.go
   exact⟨h1,h4,h5⟩
 | fuel+1,lo,hi,h1,h2,h3,h4,h5=>by
   unfold SetTable.below.go
   by_cases c:lo<hi
   ·rw[if_pos c]
    dsimp only
    have hm:(lo+hi) / 2<xs.size:=by lia
    have eg:xs.getD ((lo+hi) / 2) j=xs[(lo+hi) / 2]:=by simp[Array.getD,hm]
    rw[eg]
    by_cases d:xs[(lo+hi) / 2]<j
    ·rw[if_pos d]
     refine kr h fuel _ hi h1 (by lia) (by lia) (fun i hi' hl=>?_) h5
     by_cases z:i=(lo+hi) / 2
     ·subst z;exact d
     ·have:=g7 h (show i<(lo+hi) / 2 by lia) hm
      lia
    ·rw[if_neg d]
     refine kr h fuel lo _ (by lia) (by lia) (by lia) h4 (fun i hi' hl=>?_)
     by_cases z:i=(lo+hi) / 2
     ·subst z;lia
     ·have:=g7 h (show (lo+hi) / 2<i by lia) hi'
      lia
   ·rw[if_neg c]
    have e:lo=hi:=by lia
    subst e
    exact⟨h1,h4,h5⟩
theorem iO {xs:Array Nat}(h:Ris xs)(j:Nat):SetTable.below xs j≤xs.size∧(∀ i (hi':i<xs.size),i<SetTable.below xs j→xs[i]<j)∧(∀ i (hi':i<xs.size),SetTable.below xs j≤i→j≤xs[i]):=by
 unfold SetTable.below
 exact kr h xs.size 0 xs.size (Nat.le_refl _) (Nat.zero_le _) (by lia) (fun i _ hl=>absurd hl (Nat.not_lt_zero _)) (fun i hi' hl=>absurd hl (by lia))
theorem ml {xs:Array Nat}(h:Ris xs){j p:Nat}(hp:p≤xs.size)(h1:∀ i (hi':i<xs.size),i<p→xs[i]<j)(h2:∀ i (hi':i<xs.size),p≤i→j≤xs[i]):SetTable.below xs j=p:=by
 obtain⟨b1,b2,b3⟩:=iO h j
 rcases Nat.lt_trichotomy (SetTable.below xs j) p with c | c | c
 ·have a:=h1 _ (by lia) c
  have b:=b3 (SetTable.below xs j) (by lia) (Nat.le_refl _)
  lia
 ·exact c
 ·have a:=h2 p (by lia) (Nat.le_refl _)
  have b:=b2 p (by lia) c
  lia
theorem m8 {xs:Array Nat}(h:Ris xs):SetTable.below xs 0=0:=ml h (Nat.zero_le _) (fun i _ hl=>absurd hl (Nat.not_lt_zero _)) (fun i _ _=>Nat.zero_le _)
theorem m9 {xs:Array Nat}(h:Ris xs){i:Nat}(hi:i<xs.size):SetTable.below xs (xs[i]+1)=i+1:=by
 refine ml h (by assumption) (fun k hk hl=>?_) (fun k hk hl=>?_)
 ·by_cases z:k=i
  ·subst z;lia
  ·have:=g7 h (show k<i by lia) hi
   lia
 ·have:=g7 h (show i<k by assumption) hk
  assumption
theorem mM {xs:Array Nat}(h:Ris xs){j:Nat}(hn:xs[SetTable.below xs j]?≠some j):Ris (SetTable.insertAt xs (SetTable.below xs j) j):=by
 obtain⟨b1,b2,b3⟩:=iO h j
 unfold Ris
 rw[SetTable.toList_insertAt]
 rw[pairwise_append]
 refine⟨h.sublist (List.take_sublist _ _),?_,?_⟩
 ·rw[pairwise_cons]
  refine⟨fun x hx=>?_,h.sublist (List.drop_sublist _ _)⟩
  obtain⟨k,hk⟩:=getElem?_of_mem hx
  rw[getElem?_drop] at hk
  have hlt:=(List.getElem?_eq_some_iff.mp hk).1
  have hlt':SetTable.below xs j+k<xs.size:=by simpa using hlt
  have e:x=xs[SetTable.below xs j+k]:=by
   rw[getElem?_eq_getElem hlt] at hk
   simpa using (Option.some.inj hk).symm
  have a:=b3 _ hlt' (by lia)
  by_cases z:xs[SetTable.below xs j+k]=j
  ·exfalso
   by_cases k0:k=0
   ·subst k0
    exact hn (by rw[Array.getElem?_eq_getElem (by assumption)];exact congrArg some z)
   ·have c:=g7 h (show SetTable.below xs j<SetTable.below xs j+k by lia) hlt'
    have d:=b3 (SetTable.below xs j) (by lia) (Nat.le_refl _)
    lia
  ·rw[e];lia
 ·intro x hx y hy
  obtain⟨k,hk⟩:=getElem?_of_mem hx
  rw[getElem?_take] at hk
  split at hk
  ·rename_i hkp
   have hlt:=(List.getElem?_eq_some_iff.mp hk).1
   have hlt':k<xs.size:=by simpa using hlt
   have e:x=xs[k]:=by
    rw[getElem?_eq_getElem hlt] at hk
    simpa using (Option.some.inj hk).symm
   have a:=b2 k hlt' hkp
   rcases mem_cons.mp hy with z | z
   ·rw[e,z];exact a
   ·obtain⟨m,hm⟩:=getElem?_of_mem z
    rw[getElem?_drop] at hm
    have hlm:=(List.getElem?_eq_some_iff.mp hm).1
    have hlm':SetTable.below xs j+m<xs.size:=by simpa using hlm
    have e2:y=xs[SetTable.below xs j+m]:=by
     rw[getElem?_eq_getElem hlm] at hm
     simpa using (Option.some.inj hm).symm
    have b:=b3 _ hlm' (by lia)
    rw[e,e2];lia
  ·cases hk
def dQ (bt:Bool)(t:SetTable):Prop:=bt=false→t.led=true∧(t.plain=true→Ris t.place)
theorem kQ (bt:Bool):dQ bt (.fresh 0 0 (!bt)):=fun h=>by subst h;exact⟨rfl,fun _=>List.Pairwise.nil⟩
theorem dv {bt:Bool}{t:SetTable}(h:dQ bt t)(n:Nat):dQ bt (t.standIn n):=fun e=>⟨(h e).1,fun z=>by cases z⟩
theorem fm {t:SetTable}{ha:Nat→Int}{h:Int}:∀ (fuel:Nat) (p:SetTable.Probe) (j:Nat) (d:Option Nat),(∀ e,p.dummy=some e→t.place[SetTable.below t.place e]?≠some e)→SetTable.probe.go t ha h fuel p=some (.empty j d)→t.place[SetTable.below t.place (d.getD j)]?≠some (d.getD j)
 | 0,p,j,d,_,e=>by simp[SetTable.probe.go] at e
 | fuel+1,p,j,d,hp,e=>by
   unfold SetTable.probe.go at e
   cases c:t.slot p.j with
   | empty =>
     rw[c] at e
     simp only[Option.some.injEq,SetTable.Met.empty.injEq] at e
     obtain⟨rfl,rfl⟩:=e
     cases q:p.dummy with
     | none =>
       show t.place[SetTable.below t.place p.j]?≠some p.j
       intro z
       unfold SetTable.slot at c
       simp[z] at c
     | some x=>exact hp x q
   | dummy =>
     rw[c] at e
     refine fm fuel _ j d (fun x hx=>?_) e
     have hx':x=p.j:=by
      unfold SetTable.advance at hx
      split at hx
      ·simpa using hx.symm
      ·simpa using hx.symm
     subst hx'
     intro z
     unfold SetTable.slot at c
     simp[z] at c
   | live i =>
     rw[c] at e
     dsimp only at e
     split at e
     ·cases e
     ·refine fm fuel _ j d (fun x hx=>?_) e
      refine hp x ?_
      unfold SetTable.advance at hx
      split at hx
      ·exact hx
      ·exact hx
theorem iZ {t:SetTable}{h:Int}{slot:Nat}{b:Bool}(e:t.freeSlot h=some (slot,b)):t.place[SetTable.below t.place slot]?≠some slot:=by
 unfold SetTable.freeSlot at e
 split at e
 ·rename_i j dummy hp
  simp only[Option.some.injEq,Prod.mk.injEq] at e
  obtain⟨rfl,_⟩:=e
  exact fm _ _ _ _ (fun x hx=>by cases hx) hp
 ·cases e
theorem j8 {bt:Bool}{t:SetTable}(h:dQ bt t)(n:Nat):dQ bt (t.orStandIn n):=by
 unfold SetTable.orStandIn
 split
 ·exact h
 ·exact dv h n
theorem oX {bt:Bool}{t:SetTable}(h:dQ bt t)(es:Array (Int×Value))(x:Int)(v:Value):dQ bt (layNew t es x v).2.1:=by
 unfold layNew
 split
 ·rename_i slot wd e
  refine j8 ?_ _
  intro eb
  obtain⟨h1,h2⟩:=h eb
  exact⟨h1,fun hp=>mM (h2 hp) (iZ e)⟩
 ·exact dv h _
theorem qy {mask finger moves:Nat}{led plain:Bool}{hs:Array Int}{t:SetTable}{o:Array Nat}(e:SetTable.laid mask finger moves led plain hs=some (t,o)):t.led=led∧t.plain=plain∧Ris t.place:=by
 unfold SetTable.laid at e
 simp only[Option.bind_eq_bind,Option.bind_eq_some_iff,Option.pure_def,Option.some.injEq,Prod.mk.injEq] at e
 obtain⟨owner,_,rfl,_⟩:=e
 refine⟨rfl,rfl,?_⟩
 show List.Pairwise (· < ·) _
 simp only[]
 rw[pairwise_map]
 refine List.Pairwise.filterMap (R:=(· < ·)) _ (fun a a' hlt b hb b' hb'=>?_) List.pairwise_lt_range
 simp only[Option.mem_def,Option.map_eq_some_iff] at hb hb'
 obtain⟨_,_,rfl⟩:=hb
 obtain⟨_,_,rfl⟩:=hb'
 exact hlt
theorem li {bt:Bool}{t:SetTable}(h:dQ bt t)(es:Array (Int×Value))(wanted:Nat):dQ bt (relayAll t es wanted).2.1:=by
 unfold relayAll
 split
 ·rename_i t' order e
  dsimp only
  split
  ·intro eb
   obtain⟨h1,h2,h3⟩:=qy e
   obtain⟨g1,g2⟩:=h eb
   exact⟨by rw[h1];exact g1,fun _=>h3⟩
  ·exact dv h _
 ·exact dv h _
end SW
namespace SW
open PySem PySem.Spec PyProof.Rows
def ivE (e:Int×Value):Int:=L2.ivI e.2
def SetI (prog:Program)(w:World)(a:Addr)(ms:List Int)(h:Heap):Prop :=
 ∃ o es ep t,h.get? a=some o∧o.ExactSet∧o.data=.set es ep t∧ElemsOf (intKind prog w) es.toList∧es.toList.map ivE=ms∧ms.Nodup∧es.size<scanBound∧t.fits es.size=true∧dQ (w.params.followText "set-order") t
section
variable {prog:Program}{w:World}{A:Around}{E:Value→Shared→Prop}{s:Shared}
theorem qF {k:Int}{v:Value}(h:(intKind prog w).is k v=true):∃ t,v=.int k t:=Value.isInt_shape (k:=k) (v:=v) h
theorem qE {es:List (Int×Value)}(h:ElemsOf (intKind prog w) es){e:Int×Value}(he:e∈es):∃ t,e.2=.int (ivE e) t:=by
 obtain⟨⟨k,hk,_⟩,_⟩:=h e he
 obtain⟨t,ht⟩:=qF hk
 refine⟨t,?_⟩
 unfold ivE
 rw[ht]
 rfl
theorem mem_iff {es:List (Int×Value)}(h:ElemsOf (intKind prog w) es)(k:Int):k∈es.map ivE↔∃ e∈es,(intKind prog w).is k e.2=true:=by
 constructor
 ·intro hm
  obtain⟨e,he,rfl⟩:=mem_map.mp hm
  obtain⟨t,ht⟩:=qE h he
  exact⟨e,he,by rw[ht];exact intKind_is _ _ _ _⟩
 ·rintro⟨e,he,hk⟩
  obtain⟨t,ht⟩:=qF hk
  refine mem_map.mpr ⟨e,he,?_⟩
  unfold ivE
  rw[ht]
  rfl
theorem SetI.at {a:Addr}{ms:List Int}{h h':Heap}(x:SetI prog w a ms h)(k:∀ o,h.get? a=some o→h'.get? a=some o):SetI prog w a ms h':=by
 obtain⟨o,es,ep,t,ho,r⟩:=x
 exact⟨o,es,ep,t,k o ho,r⟩
theorem SetI.store {h:Heap}{a:Addr}{o:Obj}{es:Array (Int×Value)}{ep:Nat}{t:SetTable}(ho:h.get? a=some o)(hex:o.ExactSet)(hd:o.data=.set es ep t)
 {es':Array (Int×Value)} {t':SetTable} {ms:List Int} (hel:ElemsOf (intKind prog w) es'.toList) (hm:es'.toList.map ivE=ms) (hnd:ms.Nodup) (hb:es'.size<scanBound) (hf:t'.fits es'.size=true) (hok:dQ (w.params.followText "set-order") t') :
 (h.update a (Obj.putSet es' t')).get? a=some { o with data:=.set es' (ep+1) t' }∧SetI prog w a ms (h.update a (Obj.putSet es' t')):=by
 have hg:(h.update a (Obj.putSet es' t')).get? a=some { o with data:=.set es' (ep+1) t' }:=by
  have:=Heap.get?_update_self (Obj.putSet es' t') ho (by rw[putSet_of es' t' hd];rfl)
  rw[putSet_of es' t' hd] at this;exact this
 exact⟨hg,_,es',ep+1,t',hg,hex,rfl,hel,hm,hnd,hb,hf,hok⟩
theorem mn {g:Bool→Sem Unit}(hg:∀ (b:Bool) (s₁:Shared) (Q':Unit→Shared→Prop),Q' () s₁→wpAny (model prog w) A (g b) Q' E s₁)
 {a:Addr} {o:Obj} {es:Array (Int×Value)} {ep:Nat} {t:SetTable} (ho:s.heap.get? a=some o) (hex:o.ExactSet) (hd:o.data=.set es ep t)
 {es1:Array (Int×Value)} {t2:SetTable} {ms:List Int} (hel1:ElemsOf (intKind prog w) es1.toList) (hm1:es1.toList.map ivE=ms) (hnd:ms.Nodup)
 (hb1:es1.size<scanBound) (hf2:t2.fits es1.size=true) (hok:dQ (w.params.followText "set-order") t2) {wasDummy:Bool} {R:Option Bool→Shared→Prop}
 (h:∀ h' ms',Heap.SameBut a s.heap h'→ms'.Perm ms→SetI prog w a ms' h'→R (some true) { s with heap:=h' }) :
 wpAny (model prog w) A (do
  storeSet a es1 t2
  if (!wasDummy && t2.tooFull)=true then do
      g (relayAll t2 es1 (SetTable.grown es1.size)).2.2
      storeSet a (relayAll t2 es1 (SetTable.grown es1.size)).1 (relayAll t2 es1 (SetTable.grown es1.size)).2.1
      pure (some true)
   else pure (some true)) R E s:=by
 refine wpAny_bind (wpAny_storeSet_of ho hd ?_ (fits_of_scanBound hb1))
 obtain⟨ho1,hS1⟩:=SetI.store (prog:=prog) (w:=w) ho hex hd hel1 hm1 hnd hb1 hf2 hok
 have hsb1:=Heap.SameBut.update s.heap a (Obj.putSet es1 t2)
 split
 ·have hp:=relayAll_perm t2 es1 (SetTable.grown es1.size)
  have hfr:=relayAll_fits t2 es1 (SetTable.grown es1.size)
  have hor:=li hok es1 (SetTable.grown es1.size)
  generalize hRl:relayAll t2 es1 (SetTable.grown es1.size)=Rl at hp hfr hor ⊢
  obtain⟨es2,t3,gave2⟩:=Rl
  dsimp only at hp hfr hor ⊢
  have hel2:ElemsOf (intKind prog w) es2.toList:=hel1.perm hp
  have hpm:(es2.toList.map ivE).Perm ms:=hm1▸hp.map ivE
  have hsz:es2.size=es1.size:=by rw[←Array.length_toList,hp.length_eq,Array.length_toList]
  have hb2:es2.size<scanBound:=by rw[hsz];exact hb1
  refine wpAny_bind (hg _ _ _ ?_)
  refine wpAny_bind (wpAny_storeSet_of ho1 rfl ?_ (fits_of_scanBound hb2))
  obtain⟨_,hS2⟩:=SetI.store (prog:=prog) (w:=w) ho1 hex rfl hel2 rfl (hpm.nodup_iff.mpr hnd) hb2 hfr hor
  exact wpAny_pure (h _ _ (hsb1.trans (Heap.SameBut.update _ a _)) hpm hS2)
 ·exact wpAny_pure (h _ _ hsb1 (.refl _) hS1)
theorem gZ {a:Addr}{ms:List Int}{k:Int}{tk:Tok}{Q:Bool→Shared→Prop}(hS:SetI prog w a ms s.heap)(hroom:ms.length+1<scanBound)
 (h:∀ h' ms' b,Heap.SameBut a s.heap h'→ms'.Perm (if k∈ms then ms else ms++[k])→SetI prog w a ms' h'→Q b { s with heap:=h' }) :
 wpAny (model prog w) A (setAddHashed a (.int k tk) ((intKind prog w).hash k)) Q E s:=by
 obtain⟨o,es,ep,t,ho,hex,hd,hel,hm,hnd,hb,hf,hok⟩:=hS
 have hn:es.size=ms.length:=by rw[←hm,length_map,Array.length_toList]
 have hkey:(intKind prog w).is k (.int k tk)=true:=intKind_is _ _ _ _
 unfold setAddHashed setAddHashedIn
 refine wpAny_holding (wpAny_bind (wpAny_setState_of ho hd hf ?_))
 dsimp only
 rw[byScan_of rfl hb hel]
 simp only[↓reduceIte]
 unfold setAddByScan
 refine wpAny_bind ?_
 refine wpAny_bind (wpAny_rule ?_)
 refine wpAny_bind (wpAny_setScan_of hkey ho hd hf hel ?_)
 cases hr:List.findIdx? (fun e=>(intKind prog w).is k e.2) es.toList with
 | some j =>
   dsimp only
   obtain⟨hj,hpj,_⟩:=List.findIdx?_eq_some_iff_getElem.mp hr
   have hkm:k∈ms:=by rw[←hm];exact (mem_iff hel k).mpr ⟨es.toList[j],getElem_mem hj,hpj⟩
   refine wpAny_pure (wpAny_pure ?_)
   have e:s={ s with heap:=s.heap }:=by cases s;rfl
   rw[e]
   exact h s.heap ms false (Heap.SameBut.refl a s.heap) (by rw[if_pos hkm]) ⟨o,es,ep,t,ho,hex,hd,hel,hm,hnd,hb,hf,hok⟩
 | none =>
   dsimp only
   have hkm:k∉ms:=fun z=>by
    rw[←hm] at z
    obtain⟨e,he,hp⟩:=(mem_iff hel k).mp z
    have:=List.findIdx?_eq_none_iff.mp hr e he
    rw[hp] at this;exact Bool.noConfusion this
   have hgw:∀ (b:Bool) {s₁:Shared} {Q':Unit→Shared→Prop},Q' () s₁→wpAny (model prog w) A (match b with | true=>rule "set.scan.the-table-gave-way" | false=>pure ()) Q' E s₁ :=
    fun b s₁ Q' hq=>by cases b <;> first | exact wpAny_pure hq | exact wpAny_rule hq
   have hperm:=layNew_perm t es ((intKind prog w).hash k) (.int k tk)
   have hfits:=layNew_fits t es ((intKind prog w).hash k) (.int k tk)
   have htok:=oX hok es ((intKind prog w).hash k) (.int k tk)
   generalize hL:layNew t es ((intKind prog w).hash k) (.int k tk)=L at hperm hfits htok ⊢
   obtain⟨es1,t1,wasDummy,gave⟩:=L
   dsimp only at hperm hfits htok ⊢
   rw[Array.toList_push] at hperm
   have hel1:ElemsOf (intKind prog w) es1.toList:=(hel.push hkey rfl).perm hperm
   have hm1:(es1.toList.map ivE).Perm (ms++[k]):=by
    have:=hperm.map ivE
    rw[map_append,hm] at this
    exact this
   have hnd1:(es1.toList.map ivE).Nodup:=hm1.nodup_iff.mpr (by
    rw[nodup_append]
    exact⟨hnd,by simp,fun x hx y hy=>by rw[mem_singleton.mp hy];intro z;exact hkm (z▸hx)⟩)
   have hb1':es1.size<scanBound:=by rw[←Array.length_toList,hperm.length_eq,length_append,Array.length_toList,hn];simpa using hroom
   refine wpAny_bind (hgw _ ?_)
   have hend:∀ h' ms',Heap.SameBut a s.heap h'→ms'.Perm (es1.toList.map ivE)→SetI prog w a ms' h'→Q true { s with heap:=h' }:=fun h' ms' hsb hp hS' =>
    h h' ms' true hsb (by rw[if_neg hkm];exact hp.trans hm1) hS'
   split
   ·refine wpAny_bind ?_
    rw[hashByValue_scannable 8 rfl]
    refine wpAny_pure ?_
    simp only[plainKind,↓reduceIte]
    refine mn ?_ ho hex hd hel1 rfl hnd1 hb1' hfits htok ?_
    ·intro b s₁ Q' hq;cases b <;> first | exact wpAny_pure hq | exact wpAny_rule hq
    ·intro h' ms' hsb hp hS';dsimp only;exact wpAny_pure (hend h' ms' hsb hp hS')
   ·refine wpAny_bind (wpAny_pure ?_)
    simp only[↓reduceIte]
    refine mn ?_ ho hex hd hel1 rfl hnd1 hb1' hfits htok ?_
    ·intro b s₁ Q' hq;cases b <;> first | exact wpAny_pure hq | exact wpAny_rule hq
    ·intro h' ms' hsb hp hS';dsimp only;exact wpAny_pure (hend h' ms' hsb hp hS')
end
section
variable {prog:Program}{w:World}{A:Around}{R:Result→Shared→Prop}{I:Addr}{fp wr:List Addr}{G:Array GenState→Array GenState→Prop}{n:Nat}{P:Nat→Value→Prop}{St:Nat→Shared→Prop}
theorem kN (W:WalksS prog w A.in1 I fp wr G n P St)(S:Addr)(hSf:S∉fp)(ns:List Int)(hnl:ns.length=n)(hval:∀ i v,P i v→∃ t,v=.int (ns.getD i 0) t)(hb:n+1<scanBound) :
 ∀ (k i:Nat) (ms:List Int) (s:Shared),n-i=k→i≤n→St i s→SetI prog w S ms s.heap→(∀ x,x∈ms↔x∈ns.take i)→ms.length≤i →
   (∀ s' ms',Moved (S :: wr) G s s'→SetI prog w S ms' s'.heap→(∀ x,x∈ms'↔x∈ns)→R (.ok (.ret .none)) s') →
   codeAny (model prog w) A (.builtin "set.update.loop" ⟨[.ref S,.ref I],[]⟩) R s:=by
 have hSw:S∉wr:=fun h=>hSf (W.sub _ h)
 have hsub:∀ b∈wr,b∈S :: wr:=fun b hb=>mem_cons_of_mem _ hb
 intro k
 induction k with
 | zero =>
   intro i ms s hk hi hst hS hms hml hR
   have hin:i=n:=by lia
   subst hin
   refine codeAny_builtin F.entry_set_update_loop ?_
   rw[Around.under_plainId F.plain_set_update_loop _]
   show wpAny _ A.in1 (pyNext (.ref I) >>= _) _ _ s
   refine wpAny_bind (W.done s _ _ hst fun s' hm=>?_)
   show wpAny _ A.in1 (ret Value.none) _ _ s'
   refine wpAny_pure (hR s' ms (hm.mono hsub) (hS.at fun o e=>hm.heap S _ hSw e) fun x=>?_)
   rw[hms x,←hnl,take_of_length_le (Nat.le_refl _)]
 | succ k ih =>
   intro i ms s hk hi hst hS hms hml hR
   have hlt:i<n:=by lia
   refine codeAny_builtin F.entry_set_update_loop ?_
   rw[Around.under_plainId F.plain_set_update_loop _]
   show wpAny _ A.in1 (pyNext (.ref I) >>= _) _ _ s
   refine wpAny_bind (W.item i s _ _ hlt hst fun v s' hP hst' hm=>?_)
   obtain⟨t,rfl⟩:=hval i v hP
   have hS':SetI prog w S ms s'.heap:=hS.at fun o e=>hm.heap S _ hSw e
   show wpAny _ A.in1 (holding [Value.int (ns.getD i 0) t] (setAdd S (.int (ns.getD i 0) t)) >>= _) _ _ s'
   refine wpAny_bind (wpAny_holding ?_)
   unfold setAdd
   refine wpAny_holding ?_
   refine wpAny_bind ((intKind prog w).pyHash (k:=ns.getD i 0) (intKind_is _ _ _ _) ?_)
   refine gZ (s:={ s' with toks:=s'.toks+1 }) hS' (by lia) fun h' ms' b hsb hp hS2=>?_
   have hni:ns[i]? = some (ns.getD i 0):=by rw[getD_eq_getElem?_getD,getElem?_eq_getElem (by lia)];rfl
   refine wpAny_pure ⟨plainId_quiet F.plain_set_update_loop _,ih (i+1) ms' _ (by lia) hlt (W.frame _ s' _ _ hst' (Nat.le_succ _) fun b hb o e=>?_) hS2 (fun x=>?_) ?_ fun s'' ms'' hm'' hS'' hx=>?_⟩
   ·rw[hsb.2 b (fun h:b=S=>hSf (by rw[←h];exact hb))];exact e
   ·rw[hp.mem_iff,take_add_one,hni]
    by_cases c:ns.getD i 0∈ms
    ·rw[if_pos c,hms x,mem_append]
     constructor
     ·exact .inl
     ·rintro (z | z)
      ·exact z
      ·have:x=ns.getD i 0:=by simpa using z
       rw[this];exact (hms _).mp c
    ·rw[if_neg c,mem_append,mem_append,hms x]
     simp
   ·have:=hp.length_eq
    split at this <;> (try simp only[length_append,length_singleton] at this) <;> lia
   ·refine hR s'' ms'' (Moved.trans W.gtrans ((hm.mono hsub).then_heap (Nat.le_succ _) fun b o hb e=>?_) hm'') hS'' hx
    rw[hsb.2 b (fun h:b=S=>hb (by rw[h];exact mem_cons_self))];exact e
end
section
variable {prog:Program}{w:World}{A:Around}{E:Value→Shared→Prop}{s:Shared}
theorem rm (a:Value){Q₁:Value→Shared→Prop}
 (h:Q₁ (.ref s.heap.objs.size) { s with heap:=s.heap.push { cls:=.type "set",dict:=none,data:=.set #[] 0 (.fresh 0 0 (!w.params.followText "set-order")) } }) :
 codeAny (model prog w) A (.call (.builtin "set.__new__") ⟨[.type "set",a],[]⟩) (wants Q₁ E) s:=by
 refine codeAny_of_tree ?_
 show wpAny _ A.in1 (do checkBuiltinCall "set.__new__" ⟨[.type "set",a],[]⟩;again (.builtin "set.__new__" ⟨[.type "set",a],[]⟩)) _ _ s
 refine wpAny_bind (wpAny_of_eq (F.newCall_set_1 a) (wpAny_pure ⟨plainId_quiet F.plain_set_new _,codeAny_builtin F.entry_set_new ?_⟩))
 rw[Around.under_plainId F.plain_set_new _]
 unfold Builtin.«set.__new__» Builtin.Frozenset.newClass
 have hsub:=sub_set_self
 obtain⟨hp,g,d,tk,os⟩:=s
 dsimp only
 wp_walk
 refine wpAny_askSetting (wpAny_pure ?_)
 dsimp only
 simp only[newObj]
 refine wpAny_bind (wpAny_alloc (wpAny_pure ?_))
 exact wpAny_pure h
set_option maxHeartbeats 8000000 in
theorem call_set {l:Addr}{items:Array Value}{ns:List Int}{Q:Value→Shared→Prop}
 (hh:A.handled=none) (hl:s.heap.IsList l items) (hi:IntsAre items.toList ns) (hb:items.size+1<scanBound)
 (h:∀ (h':Heap) (tk:Nat) (ms:List Int),SetI prog w s.heap.objs.size ms h'→(∀ x,x∈ms↔x∈ns) →
  (∀ b o,b<s.heap.objs.size→s.heap.get? b=some o→h'.get? b=some o)→Q (.ref s.heap.objs.size) { s with heap:=h',toks:=tk }) :
 wpAny (model prog w) A (call (.type "set") [.ref l]) Q E s:=by
 obtain⟨c,tl,hmro⟩:=F.called_set.mro
 have hmade:=F.called_set.made
 have hsub:=F.called_set.sub
 refine wpAny_call (codeAny_of_tree ?_)
 show wpAny _ _ (callAny (.type "set") _) _ _ _
 refine wpAny_pure ⟨Code.quiet_builtin _ (by decide +kernel),codeAny_builtin F.entry_type_call ?_⟩
 rw[Around.under_plain (weight_type_call_type "set" [.ref l] []) rfl]
 have h1:=F.called_set.notType
 have h2:=F.called_set.canCreate
 have hct:=F.typeCall_set_1 (.ref l)
 repeat (any_goals (first | assumption | wp_step))
 generalize hfr:(!w.params.followText "set-order")=led
 refine codeAny_mono (rm (.ref l) (E:=E) (Q₁:=fun obj s₁=>obj=.ref s.heap.objs.size∧s₁={ s with heap:=s.heap.push { cls:=.type "set",dict:=none,data:=.set #[] 0 (.fresh 0 0 led) } }) ⟨rfl,by rw[hfr]⟩) fun r s₁ hr=>?_
 cases r with
 | error e=>exact hr
 | ok fl =>
   cases fl with
   | ret obj =>
     obtain⟨rfl,rfl⟩:=hr
     have hS:(s.heap.push { cls:=.type "set",dict:=none,data:=.set #[] 0 (.fresh 0 0 led) }).get? s.heap.objs.size=some { cls:=.type "set",dict:=none,data:=.set #[] 0 (.fresh 0 0 led) }:=Heap.get?_push_size _ rfl
     have hT:Shared.TypeIs { s with heap:=s.heap.push { cls:=.type "set",dict:=none,data:=.set #[] 0 (.fresh 0 0 led) } } (.ref s.heap.objs.size) "set" :=⟨_,hS,rfl⟩
     have hli:=F.called_set.init.lookup
     have hbi:=F.called_set.init.bind (.ref s.heap.objs.size)
     repeat (any_goals (first | assumption | wp_step))
     refine codeAny_mono (codeAny_call_builtin (R:=wants (fun r s₂=>r=.none∧∃ h' tk ms,s₂={ s with heap:=h',toks:=tk }∧SetI prog w s.heap.objs.size ms h'∧(∀ x,x∈ms↔x∈ns) ∧
      (∀ b o,b<s.heap.objs.size→s.heap.get? b=some o→h'.get? b=some o)) E) F.called_set.init.plain F.entry_set_init (check_set_init_1 hT ?_)) fun r₂ s₂ hr₂=>?_
     ·obtain⟨ol,hol,hcl,nl,hdl⟩:=hl
      obtain⟨ocls,odict,odata,oslots⟩:=ol
      simp only at hcl hdl
      subst hcl;subst hdl
      have hol':(s.heap.push { cls:=.type "set",dict:=none,data:=.set #[] 0 (.fresh 0 0 led) }).get? l=some { cls:=.type "list",dict:=odict,data:=.seq items nl,slots:=oslots }:=Heap.get?_push_of_some _ hol
      have hsls:=F.sub_list_set
      have hslf:=F.sub_list_frozenset
      have hne:(Value.type "list" == Value.type "dict")=false:=by decide
      have hl1:(s.heap.push { cls:=.type "set",dict:=none,data:=.set #[] 0 (.fresh 0 0 led) }).IsList l items:=⟨_,hol',rfl,nl,rfl⟩
      unfold Builtin.«set.__init__» noKeywords Builtin.Frozenset.updateFrom
      generalize hPI:pyIter=PI
      wp_walk
      subst hPI
      refine wpAny_pyIter_list hl1 ?_
      refine wpAny_bind (wpAny_runValue ?_)
      have hlS:l<s.heap.objs.size:=Heap.lt_size hol
      have hh3:A.in1.in1.in1.handled=none:=by simp[hh]
      have hneI:l≠(s.heap.push { cls:=.type "set",dict:=none,data:=.set #[] 0 (.fresh 0 0 led) }).objs.size:=by
       rw[Heap.size_push];exact Nat.ne_of_lt (Nat.lt_succ_of_lt hlS)
      have hSf:s.heap.objs.size∉[(s.heap.push { cls:=.type "set",dict:=none,data:=.set #[] 0 (.fresh 0 0 led) }).objs.size,l]:=by
       rw[Heap.size_push];simp only[mem_cons,mem_singleton,not_mem_nil,or_false,not_or]
       exact⟨Nat.ne_of_lt (Nat.lt_succ_self _),Nat.ne_of_gt hlS⟩
      have hval:∀ (i:Nat) (v:Value),items[i]? = some v→∃ t,v=.int (ns.getD i 0) t:=fun i v hv =>
       IntsAre.int_at hi i v (by rw[Array.getElem?_toList];exact hv)
      have hnl:ns.length=items.size:=by have:=IntsAre.length hi;rw[Array.length_toList] at this;exact this.symm
      refine kN ((Walks.list hh3 _ l hneI items).toS) s.heap.objs.size
       hSf ns hnl hval hb (items.size-0) 0 [] _ (by lia) (Nat.zero_le _)
       ⟨⟨_,Heap.get?_push_size _ rfl,rfl,rfl⟩,(hl1.push _)⟩ ?hS0 (by simp) (Nat.le_refl _) ?hR
      case hS0 =>
       have hget:((s.heap.push { cls:=.type "set",dict:=none,data:=.set #[] 0 (.fresh 0 0 led) }).push { cls:=.type "list_iterator",data:=.fields #[.ref l,.int 0 0] }).get? s.heap.objs.size
        = some { cls:=.type "set",dict:=none,data:=.set #[] 0 (.fresh 0 0 led) }:=Heap.get?_push_of_some _ hS
       exact⟨_,#[],0,_,hget,⟨rfl,rfl,rfl⟩,rfl,fun e he=>by simp at he,rfl,nodup_nil,by decide,by rfl,by rw[←hfr];exact kQ _⟩
      case hR =>
       intro s' ms hm hS' hx
       obtain⟨h',g',d',tk',os'⟩:=s'
       have eg:g'=s.gens:=hm.gens
       have ed:d'=s.drawn:=hm.drawn
       have eo:os'=s.os:=hm.os
       subst eg;subst ed;subst eo
       show wpAny _ _ _ _ _ _
       refine wpAny_pure ?_
       show wpAny _ _ (ret Value.none) _ _ _
       refine wpAny_pure ⟨rfl,h',tk',ms,rfl,hS',hx,fun b o hb e=>?_⟩
       have hb1:b≠s.heap.objs.size:=Nat.ne_of_lt hb
       have hb2:b≠(s.heap.push { cls:=.type "set",dict:=none,data:=.set #[] 0 (.fresh 0 0 led) }).objs.size:=by
        rw[Heap.size_push];exact Nat.ne_of_lt (Nat.lt_succ_of_lt hb)
       exact hm.heap b o (by simp only[mem_cons,mem_singleton,not_mem_nil,or_false,not_or];exact⟨hb1,hb2⟩) (Heap.get?_push_of_some _ (Heap.get?_push_of_some _ e))
     ·cases r₂ with
      | error e=>exact hr₂
      | ok fl₂ =>
        cases fl₂ with
        | ret r =>
          obtain⟨rfl,h',tk,ms,rfl,hS',hx,hk'⟩:=hr₂
          repeat (any_goals (first | assumption | wp_step))
          exact h _ _ ms hS' hx hk'
        | _=>exact hr₂.elim
   | _=>exact hr.elim
end
end SW
namespace SW
open PySem PySem.Spec PyProof.Rows
theorem fz {α:Type}:∀ (l:List α) (i:Nat) (h:i<l.length),(l[i] :: l.eraseIdx i).Perm l
 | x :: r,0,h=>by simp
 | x :: r,i+1,h=>by
   have ih:=fz r i (by simpa using h)
   have:(x :: r).eraseIdx (i+1)=x :: r.eraseIdx i:=rfl
   rw[this,List.getElem_cons_succ]
   exact (List.Perm.swap _ _ _).trans (ih.cons x)
section
variable {M:Model}{A:Around}{E:Value→Shared→Prop}
theorem jO {s:Shared}{src:Source}{n:Nat}{Q:Nat→Shared→Prop}(hn:n≠0)(h:∀ i,i<n→Q i { s with drawn:=s.drawn.bump src }):wpAny M A (choose src n) Q E s :=
 fun _ _ _=>⟨hn,h _ (Nat.mod_lt _ (Nat.pos_of_ne_zero hn))⟩
theorem iI {α:Type}:∀ (n:Nat) (xs:List α) (s:Shared) (Q:List α→Shared→Prop),xs.length=n→(∀ ys d,ys.Perm xs→Q ys { s with drawn:=d })→wpAny M A (drawOrder n xs) Q E s
 | 0,xs,s,Q,hl,h=>by
   have e:xs=[]:=eq_nil_of_length_eq_zero hl
   subst e
   unfold drawOrder
   exact wpAny_pure (h [] s.drawn (.refl _))
 | n+1,[],s,Q,hl,h=>by simp at hl
 | n+1,x :: r,s,Q,hl,h=>by
   unfold drawOrder
   refine wpAny_bind (jO (by simp) fun i hi=>?_)
   have e:(x :: r)[i]? = some (x :: r)[i]:=getElem?_eq_getElem hi
   rw[e]
   dsimp only
   refine wpAny_bind (iI n ((x :: r).eraseIdx i) _ _ (by rw[List.length_eraseIdx_of_lt hi,hl];rfl) fun ys d hp=>wpAny_pure ?_)
   refine h _ d ?_
   refine (hp.cons _).trans ?_
   exact (fz _ _ hi)
end
theorem nK {α:Type}(next:Nat→Nat):∀ (fuel k:Nat) (left:List α) (out:Array α),left.length=fuel→(pickOrder.go next fuel k left out).toList.Perm (out.toList++left)
 | 0,k,left,out,hl=>by
   have e:left=[]:=eq_nil_of_length_eq_zero hl
   subst e
   unfold pickOrder.go
   rw[append_nil]
 | fuel+1,k,left,out,hl=>by
   unfold pickOrder.go
   have hi:next k % left.length<left.length:=Nat.mod_lt _ (by lia)
   rw[getElem?_eq_getElem hi]
   dsimp only
   refine (nK next fuel (k+1) _ _ (by rw[List.length_eraseIdx_of_lt hi,hl];rfl)).trans ?_
   rw[Array.toList_push,append_assoc]
   exact List.Perm.append_left _ (fz _ _ hi)
theorem eS {α:Type}(next:Nat→Nat)(xs:Array α):(pickOrder next xs).toList.Perm xs.toList:=by
 unfold pickOrder
 have:=nK next xs.size 0 xs.toList #[] (by simp)
 simpa using this
theorem ls:Manifest.owners.lookup (String.ofList ['r','o','t','a','r','e','t','i','_','t','e','s'].reverse)=some Manifest.sig_set_iterator:=by kernel_rfl
theorem aG:Slot "set_iterator" "__next__" "set_iterator.__next__" :=
 .of (owner:="set_iterator") (n:="__next__") (by rw[typeLookup_type,builtinLookup_eq_fast];kernel_rfl) (by decide +kernel) (by decide +kernel) (by decide +kernel)
  (by first | exact .inl (by decide +kernel) | exact .inr (by decide +kernel)) (by rw[isSubtype_type];kernel_rfl)
theorem bZ:entryFor table "set_iterator.__next__" = some Builtin.«set_iterator.__next__»:=entryFor_of_tree (by kernel_rfl)
theorem cC (a:Value):argsOk "set_iterator.__next__" ⟨[a],[]⟩:=by
 unfold argsOk;rw[signature?_of (id:="set_iterator.__next__") (n:=['_','_','t','x','e','n','_','_']) (o:=['r','o','t','a','r','e','t','i','_','t','e','s']) (by kernel_rfl) ls];kernel_rfl
theorem fD:Slot "set_iterator" "__iter__" "set_iterator.__iter__" :=
 .of (owner:="set_iterator") (n:="__iter__") (by rw[typeLookup_type,builtinLookup_eq_fast];kernel_rfl) (by decide +kernel) (by decide +kernel) (by decide +kernel)
  (by first | exact .inl (by decide +kernel) | exact .inr (by decide +kernel)) (by rw[isSubtype_type];kernel_rfl)
theorem kE (a:Value):argsOk "set_iterator.__iter__" ⟨[a],[]⟩:=by
 unfold argsOk;rw[signature?_of (id:="set_iterator.__iter__") (n:=['_','_','r','e','t','i','_','_']) (o:=['r','o','t','a','r','e','t','i','_','t','e','s']) (by kernel_rfl) ls];kernel_rfl
theorem i5:entryFor table "set_iterator.__iter__" = some Builtin.«dict_keyiterator.__iter__» :=
 entryFor_alias (id':="dict_keyiterator.__iter__") (by kernel_rfl) (by first | rfl | decide +kernel | (unfold String.splitOn;simp +decide [String.splitOnAux])) (by decide +kernel) (by kernel_rfl)
theorem iF:entryFor table "set.__iter__" = some Builtin.«frozenset.__iter__» :=
 entryFor_alias (id':="frozenset.__iter__") (by kernel_rfl) (by first | rfl | decide +kernel | (unfold String.splitOn;simp +decide [String.splitOnAux])) (by decide +kernel) (by kernel_rfl)
theorem rQ:typeLookup (.type "set") "__len__" = pure (some (.builtin "set.__len__")):=by rw[typeLookup_type,builtinLookup_eq_fast];kernel_rfl
#check @F.slot_set_iter
#check @F.args_set_iter_1
end SW
namespace SW
open PySem PySem.Spec PyProof.Rows
def dR (h:Heap)(it:Addr)(first:Value)(i:Nat)(a:Addr)(n ep:Nat):Prop:=∃ ob,h.get? it=some ob∧ob.cls=.type "set_iterator" ∧ob.data=.fields #[first,rawInt (i:Int),.ref a,rawInt (n:Int),rawInt (ep:Int)]
section
variable {prog:Program}{w:World}{A:Around}{E:Value→Shared→Prop}{s:Shared}{it a tp:Addr}{o:Obj}{es:Array (Int×Value)}{ep:Nat}{t:SetTable}{i:Nat}{first:Value}
theorem dR.typeIs (x:dR s.heap it first i a es.size ep):s.TypeIs (.ref it) "set_iterator" :=let ⟨o,ho,hc,_⟩:=x;⟨o,ho,hc⟩
theorem lI {sl:Nat}{x:Value}{nx:Nat}{Q:Option Value→Shared→Prop}(hit:dR s.heap it (rawInt (sl:Int)) i a es.size ep)(ho:s.heap.get? a=some o)(hd:o.data=.set es ep t)(hf:t.fits es.size=true)
 (hnx:∀ (A:Around) (E:Value→Shared→Prop) (Q:Option (Value×Nat)→Shared→Prop),Q (some (x,nx)) s→wpAny (model prog w) A (setNext a sl i ep) Q E s)
 (h:∀ h',dR h' it (rawInt (nx:Int)) (i+1) a es.size ep→Heap.SameBut it s.heap h'→Q (some x) { s with heap:=h' }):wpAny (model prog w) A (pyNext (.ref it)) Q E s:=by
 obtain⟨ob,hob,hc,hdt⟩:=id hit
 unfold pyNext
 refine wpAny_bind (wpAny_attempt (wpAny_callSpecial?_slot (name:=Str.ofString "__next__") hit.typeIs aG
  (wpAny_call_entry aG hit.typeIs bZ ?_ (cC _))))
 unfold Builtin.«set_iterator.__next__»
 refine wpAny_bind (wpAny_of_eq (a:=(Value.ref it,[])) rfl ?_)
 try dsimp only
 refine wpAny_bind (wpAny_fieldsOf hob hdt ?_)
 show wpAny _ _ (setEntries a >>= _) _ _ s
 refine wpAny_bind (wpAny_setEntries_of ho hd hf ?_)
 rw[if_neg (by simp)]
 show wpAny _ _ (setNext a (Int.toNat (sl:Int)) (Int.toNat (i:Int)) (Int.toNat (ep:Int)) >>= _) _ _ s
 rw[Int.toNat_natCast,Int.toNat_natCast,Int.toNat_natCast]
 refine wpAny_bind (hnx _ _ _ ?_)
 show wpAny _ _ (setField (Value.ref it) 0 (rawInt (nx:Int)) >>= _) _ _ s
 refine wpAny_bind (wpAny_setField hob hdt (by simp) ?_)
 have h1:=Heap.get?_update_self (Obj.mapFields (·.setIfInBounds 0 (rawInt (nx:Int)))) hob (Obj.isFreed_of_fields (Obj.data_mapFields hdt _))
 have d1:=Obj.data_mapFields hdt (·.setIfInBounds 0 (rawInt (nx:Int)))
 refine wpAny_bind (wpAny_setField h1 d1 (by simp) ?_)
 refine wpAny_pure ⟨x,rfl,wpAny_pure (h _ ?_ ((Heap.SameBut.update ..).trans (Heap.SameBut.update ..)))⟩
 refine⟨_,Heap.get?_update_self _ h1 (Obj.isFreed_of_fields (Obj.data_mapFields d1 _)),?_,?_⟩
 ·rw[Obj.cls_mapFields,Obj.cls_mapFields];exact hc
 ·rw[Obj.data_mapFields d1];simp
theorem nU {sl:Nat}{Q:Option Value→Shared→Prop}(hh:A.handled=none)(hit:dR s.heap it (rawInt (sl:Int)) i a es.size ep)(ho:s.heap.get? a=some o)(hd:o.data=.set es ep t)(hf:t.fits es.size=true)
 (hnx:∀ (A:Around) (E:Value→Shared→Prop) (Q:Option (Value×Nat)→Shared→Prop),Q none s→wpAny (model prog w) A (setNext a sl i ep) Q E s)
 (h:∀ h',Heap.ExtBut it s.heap h'→Q none { s with heap:=h' }):wpAny (model prog w) A (pyNext (.ref it)) Q E s:=by
 obtain⟨ob,hob,hc,hdt⟩:=id hit
 unfold pyNext
 refine wpAny_bind (wpAny_attempt (wpAny_callSpecial?_slot (name:=Str.ofString "__next__") hit.typeIs aG
  (wpAny_call_entry aG hit.typeIs bZ ?_ (cC _))))
 unfold Builtin.«set_iterator.__next__»
 refine wpAny_bind (wpAny_of_eq (a:=(Value.ref it,[])) rfl ?_)
 try dsimp only
 refine wpAny_bind (wpAny_fieldsOf hob hdt ?_)
 show wpAny _ _ (setEntries a >>= _) _ _ s
 refine wpAny_bind (wpAny_setEntries_of ho hd hf ?_)
 rw[if_neg (by simp)]
 show wpAny _ _ (setNext a (Int.toNat (sl:Int)) (Int.toNat (i:Int)) (Int.toNat (ep:Int)) >>= _) _ _ s
 rw[Int.toNat_natCast,Int.toNat_natCast,Int.toNat_natCast]
 refine wpAny_bind (hnx _ _ _ ?_)
 show wpAny _ _ (setField (Value.ref it) 2 Value.none >>= _) _ _ s
 refine wpAny_bind (wpAny_setField hob hdt (by simp) ?_)
 refine wpAny_bind ?_
 simp only[newExc,newTuple]
 refine wpAny_bind (wpAny_newObj_type ?_ (by size_fits))
 refine wpAny_bind (m:=firstArgMember _ _) (wpAny_of_eq (a:=Value.none) (by first | rfl | (simp only[firstArgMember];rfl)) ?_)
 refine wpAny_newObj_type ?_ (by size_fits)
 simp only[raiseNew]
 refine wpAny_bind (wpAny_handled ?_)
 first | rw[show A.in1.handled=none from hh] | rw[hh]
 refine wpAny_bind (wpAny_pure (wpAny_throw ?_))
 refine wpAny_bind (wpAny_isInstance (T:="StopIteration") (b:=true) ⟨_,Heap.get?_push_size _ rfl,rfl⟩ isSubtype_stop ?_)
 exact wpAny_pure (h _ (((Heap.SameBut.update ..).extBut.push _).push _))
theorem qv {places:Array Value}{p:Nat}{tk:Tok}{x:Value}{hs:Int}{Q:Option Value→Shared→Prop}(hit:dR s.heap it (.ref tp) i a es.size ep)(ho:s.heap.get? a=some o)(hd:o.data=.set es ep t)(hf:t.fits es.size=true)
 (htp:s.heap.IsTuple tp places) (hp:places[i]? = some (.int (p:Int) tk)) (hx:es[p]? = some (hs,x))
 (h:∀ h',dR h' it (.ref tp) (i+1) a es.size ep→Heap.SameBut it s.heap h'→Q (some x) { s with heap:=h' }):wpAny (model prog w) A (pyNext (.ref it)) Q E s:=by
 obtain⟨ob,hob,hc,hdt⟩:=id hit
 obtain⟨ot,hot,hct,nt,hdtt⟩:=id htp
 unfold pyNext
 refine wpAny_bind (wpAny_attempt (wpAny_callSpecial?_slot (name:=Str.ofString "__next__") hit.typeIs aG
  (wpAny_call_entry aG hit.typeIs bZ ?_ (cC _))))
 unfold Builtin.«set_iterator.__next__»
 refine wpAny_bind (wpAny_of_eq (a:=(Value.ref it,[])) rfl ?_)
 try dsimp only
 refine wpAny_bind (wpAny_fieldsOf hob hdt ?_)
 show wpAny _ _ (setEntries a >>= _) _ _ s
 refine wpAny_bind (wpAny_setEntries_of ho hd hf ?_)
 rw[if_neg (by simp)]
 show wpAny _ _ (seqItems? (.ref tp) >>= _) _ _ s
 refine wpAny_bind (wpAny_seqItems hot hdtt ?_)
 show wpAny _ _ (match places[Int.toNat (i:Int)]? with
  | some (Value.int place tok)=>do
    let x ←setNextDrawn a place.toNat (Int.toNat (ep:Int))
    setField (Value.ref it) 1 (rawInt ((i:Int)+1))
    ret x
  | some val=>unsupported "internal:set_iterator"
  | none=>_) _ _ s
 rw[Int.toNat_natCast,hp]
 show wpAny _ _ (setNextDrawn a (Int.toNat (p:Int)) (Int.toNat (ep:Int)) >>= _) _ _ s
 rw[Int.toNat_natCast,Int.toNat_natCast]
 refine wpAny_bind ?_
 unfold setNextDrawn
 refine wpAny_bind (wpAny_setState_of ho hd hf ?_)
 dsimp only
 rw[if_neg (by simp)]
 rw[hx]
 refine wpAny_pure ?_
 refine wpAny_bind (wpAny_setField hob hdt (by simp) ?_)
 refine wpAny_pure ⟨x,rfl,wpAny_pure (h _ ?_ (Heap.SameBut.update ..))⟩
 refine⟨_,Heap.get?_update_self _ hob (Obj.isFreed_of_fields (Obj.data_mapFields hdt _)),?_,?_⟩
 ·rw[Obj.cls_mapFields];exact hc
 ·rw[Obj.data_mapFields hdt];simp
theorem rY {places:Array Value}{Q:Option Value→Shared→Prop}(hh:A.handled=none)(hit:dR s.heap it (.ref tp) i a es.size ep)(ho:s.heap.get? a=some o)(hd:o.data=.set es ep t)(hf:t.fits es.size=true)
 (htp:s.heap.IsTuple tp places) (hp:places[i]? = none)
 (h:∀ h',Heap.ExtBut it s.heap h'→Q none { s with heap:=h' }):wpAny (model prog w) A (pyNext (.ref it)) Q E s:=by
 obtain⟨ob,hob,hc,hdt⟩:=id hit
 obtain⟨ot,hot,hct,nt,hdtt⟩:=id htp
 unfold pyNext
 refine wpAny_bind (wpAny_attempt (wpAny_callSpecial?_slot (name:=Str.ofString "__next__") hit.typeIs aG
  (wpAny_call_entry aG hit.typeIs bZ ?_ (cC _))))
 unfold Builtin.«set_iterator.__next__»
 refine wpAny_bind (wpAny_of_eq (a:=(Value.ref it,[])) rfl ?_)
 try dsimp only
 refine wpAny_bind (wpAny_fieldsOf hob hdt ?_)
 show wpAny _ _ (setEntries a >>= _) _ _ s
 refine wpAny_bind (wpAny_setEntries_of ho hd hf ?_)
 rw[if_neg (by simp)]
 show wpAny _ _ (seqItems? (.ref tp) >>= _) _ _ s
 refine wpAny_bind (wpAny_seqItems hot hdtt ?_)
 show wpAny _ _ (match places[Int.toNat (i:Int)]? with
  | some (Value.int place tok)=>_
  | some val=>unsupported "internal:set_iterator"
  | none=>do
    setField (Value.ref it) 0 (rawInt 0)
    setField (Value.ref it) 2 Value.none
    let __do_lift ←newExc (Value.type "StopIteration") []
    raiseNew __do_lift) _ _ s
 rw[Int.toNat_natCast,hp]
 show wpAny _ _ (setField (Value.ref it) 0 (rawInt 0) >>= _) _ _ s
 refine wpAny_bind (wpAny_setField hob hdt (by simp) ?_)
 have h1:=Heap.get?_update_self (Obj.mapFields (·.setIfInBounds 0 (rawInt 0))) hob (Obj.isFreed_of_fields (Obj.data_mapFields hdt _))
 have d1:=Obj.data_mapFields hdt (·.setIfInBounds 0 (rawInt 0))
 refine wpAny_bind (wpAny_setField h1 d1 (by simp) ?_)
 refine wpAny_bind ?_
 simp only[newExc,newTuple]
 refine wpAny_bind (wpAny_newObj_type ?_ (by size_fits))
 refine wpAny_bind (m:=firstArgMember _ _) (wpAny_of_eq (a:=Value.none) (by first | rfl | (simp only[firstArgMember];rfl)) ?_)
 refine wpAny_newObj_type ?_ (by size_fits)
 simp only[raiseNew]
 refine wpAny_bind (wpAny_handled ?_)
 first | rw[show A.in1.handled=none from hh] | rw[hh]
 refine wpAny_bind (wpAny_pure (wpAny_throw ?_))
 refine wpAny_bind (wpAny_isInstance (T:="StopIteration") (b:=true) ⟨_,Heap.get?_push_size _ rfl,rfl⟩ isSubtype_stop ?_)
 exact wpAny_pure (h _ ((((Heap.SameBut.update ..).trans (Heap.SameBut.update ..)).extBut.push _).push _))
end
end SW
namespace SW
open PySem PySem.Spec PyProof.Rows
section
variable {prog:Program}{w:World}{A:Around}{E:Value→Shared→Prop}{s:Shared}{it a tp:Addr}{o:Obj}{es:Array (Int×Value)}{ep:Nat}{t:SetTable}{i:Nat}
theorem ju {sl:Nat}{Q:Option (Value×Nat)→Shared→Prop}(bt:w.params.followText "set-order" = true)(ho:s.heap.get? a=some o)(hd:o.data=.set es ep t)(hf:t.fits es.size=true)
 (q:Q (((pickOrder (w.params.setOrder a ep) es)[i]?).map fun e=>(e.2,sl)) s):wpAny (model prog w) A (setNext a sl i ep) Q E s:=by
 unfold setNext
 refine wpAny_bind (wpAny_setState_of ho hd hf ?_)
 dsimp only
 refine wpAny_bind ?_
 unfold setsByText
 refine wpAny_bind (wpAny_askSetting (wpAny_pure ?_))
 show wpAny _ _ (if (w.params.followText "set-order")=true then _ else _) _ _ s
 rw[if_pos bt]
 rw[if_neg (by simp)]
 refine wpAny_bind ?_
 unfold setWalk
 refine wpAny_bind (wpAny_setState_of ho hd hf ?_)
 dsimp only
 refine wpAny_bind ?_
 unfold setsByText
 refine wpAny_bind (wpAny_askSetting (wpAny_pure ?_))
 show wpAny _ _ (if (w.params.followText "set-order")=true then _ else _) _ _ s
 rw[if_pos bt]
 refine wpAny_bind (wpAny_askSetting (wpAny_pure ?_))
 exact wpAny_pure q
theorem il {sl:Nat}{Q:Option (Value×Nat)→Shared→Prop}(bt:w.params.followText "set-order" = false)(ho:s.heap.get? a=some o)(hd:o.data=.set es ep t)(hf:t.fits es.size=true)
 (hp:t.plain=true∨es.size≤1) (hl:t.led=true)
 (q:Q (match es[SetTable.below t.place sl]?,t.place[SetTable.below t.place sl]? with | some (_,x),some j=>some (x,j+1) | _,_=>none) s):wpAny (model prog w) A (setNext a sl i ep) Q E s:=by
 unfold setNext
 refine wpAny_bind (wpAny_setState_of ho hd hf ?_)
 dsimp only
 refine wpAny_bind ?_
 unfold setsByText
 refine wpAny_bind (wpAny_askSetting (wpAny_pure ?_))
 show wpAny _ _ (if (w.params.followText "set-order")=true then _ else _) _ _ s
 rw[if_neg (by rw[bt];exact Bool.false_ne_true)]
 have hdr:¬ ((!t.plain && decide (es.size>1))=true):=by
  rcases hp with z | z
  ·rw[z];simp
  ·have:¬ es.size>1:=by lia
   simp[this]
 show wpAny _ _ (if (!t.plain && decide (es.size>1))=true then _ else _) _ _ s
 rw[if_neg hdr]
 refine wpAny_bind ?_
 show wpAny _ _ (if (!t.led && !es.isEmpty)=true then _ else _) _ _ s
 rw[if_neg (by rw[hl];simp)]
 exact wpAny_pure (wpAny_pure q)
theorem gd {first:Value}{n:Nat}{Q:Value→Shared→Prop}(hit:dR s.heap it first i a n ep)(h:Q (.ref it) s):wpAny (model prog w) A (pyIter (.ref it)) Q E s:=by
 have hT:s.TypeIs (.ref it) "set_iterator" :=let ⟨o,ho,hc,_⟩:=hit;⟨o,ho,hc⟩
 refine wpAny_pyIter_slot hT fD (wpAny_call_entry fD hT i5 ?_ (kE _))
 show wpAny _ _ (ret (.ref it)) _ _ s
 exact wpAny_pure ⟨_,rfl,"set_iterator",_,hT,aG.lookup,h⟩
theorem dR.at {h h':Heap}{first:Value}{n:Nat}(x:dR h it first i a n ep)(e:∀ o,h.get? it=some o→h'.get? it=some o):dR h' it first i a n ep:=let ⟨o,ho,r⟩:=x;⟨o,e _ ho,r⟩
end
section
variable {prog:Program}{w:World}{A:Around}{it a tp:Addr}{o:Obj}{es:Array (Int×Value)}{ep:Nat}{t:SetTable}
def cS (es:List (Int×Value)):List Value:=es.map (·.2)
theorem ou (hh:A.handled=none)(hne:a≠it)(hnt:tp≠it)(bt:w.params.followText "set-order" = true)(hd:o.data=.set es ep t)(hf:t.fits es.size=true) :
 Walks prog w A it [it,a,tp] [it] es.size (fun i v=>(cS (pickOrder (w.params.setOrder a ep) es).toList)[i]? = some v) (fun i h=>i≤es.size∧dR h it (rawInt ((0:Nat):Int)) i a es.size ep∧h.get? a=some o) where
 sub:=fun b hb=>by simp at hb;simp[hb]
 frame:=fun _ _ _ x hk=>⟨x.1,x.2.1.at fun o e=>hk it (by simp) o e,hk a (by simp) o x.2.2⟩
 item:=fun i s Q E hi x hQ=>by
  have hlen:(pickOrder (w.params.setOrder a ep) es).size=es.size:=by have:=(eS (w.params.setOrder a ep) es).length_eq;simpa using this
  have hx:(pickOrder (w.params.setOrder a ep) es)[i]? = some ((pickOrder (w.params.setOrder a ep) es)[i]'(by lia)):=Array.getElem?_eq_getElem (by lia)
  refine lI x.2.1 x.2.2 hd hf (fun A' E' Q' q'=>ju bt x.2.2 hd hf (by rw[hx];exact q')) fun h' hit' hs'=>?_
  refine hQ _ h' s.toks ?_ ⟨hi,hit',(hs'.2 a hne).trans x.2.2⟩ fun b o hb e=>hs'.extBut b o (fun h=>hb (by simp[h])) e
  unfold cS
  rw[getElem?_map,Array.getElem?_toList,hx]
  rfl
 done:=fun s Q E x hQ=>by
  have hlen:(pickOrder (w.params.setOrder a ep) es).size=es.size:=by have:=(eS (w.params.setOrder a ep) es).length_eq;simpa using this
  have hx:(pickOrder (w.params.setOrder a ep) es)[es.size]? = none:=Array.getElem?_eq_none (by lia)
  exact nU hh x.2.1 x.2.2 hd hf (fun A' E' Q' q'=>ju bt x.2.2 hd hf (by rw[hx];exact q')) fun h' he'=>hQ h' s.toks fun b o hb eo=>he' b o (fun h=>hb (by simp[h])) eo
 self:=fun _ _ _ _ x hQ=>gd x.2.1 hQ
def jV (t:SetTable):Nat→Nat
 | 0=>0
 | i+1=>t.place.getD i 0+1
theorem my (hh:A.handled=none)(hne:a≠it)(hnt:tp≠it)(bt:w.params.followText "set-order" = false)(hd:o.data=.set es ep t)(hf:t.fits es.size=true)(hp:t.plain=true∨es.size≤1)(hl:t.led=true)(hr:Ris t.place) :
 Walks prog w A it [it,a,tp] [it] es.size (fun i v=>(cS es.toList)[i]? = some v) (fun i h=>i≤es.size∧dR h it (rawInt ((jV t i:Nat):Int)) i a es.size ep∧h.get? a=some o):=by
 have hsz:t.place.size=es.size:=by
  unfold SetTable.fits at hf
  simp only[Bool.and_eq_true,beq_iff_eq] at hf
  exact hf.1
 have hb:∀ i,i≤es.size→SetTable.below t.place (jV t i)=i:=fun i hi=>by
  cases i with
  | zero=>exact m8 hr
  | succ i =>
    have h1:i<t.place.size:=by lia
    have h2:t.place.getD i 0=t.place[i]:=by simp[Array.getD,h1]
    show SetTable.below t.place (t.place.getD i 0+1)=i+1
    rw[h2]
    exact m9 hr h1
 exact {
  sub:=fun b hb=>by simp at hb;simp[hb]
  frame:=fun _ _ _ x hk=>⟨x.1,x.2.1.at fun o e=>hk it (by simp) o e,hk a (by simp) o x.2.2⟩
  item:=fun i s Q E hi x hQ=>by
   have h1:i<t.place.size:=by lia
   have hx:es[i]? = some es[i]:=Array.getElem?_eq_getElem hi
   have hj:t.place[i]? = some (t.place.getD i 0):=by simp[Array.getD,h1]
   refine lI (x:=es[i].2) (nx:=jV t (i+1)) x.2.1 x.2.2 hd hf (fun A' E' Q' q'=>il bt x.2.2 hd hf hp hl (by rw[hb i (Nat.le_of_lt hi),hx,hj];exact q')) fun h' hit' hs'=>?_
   refine hQ _ h' s.toks ?_ ⟨hi,hit',(hs'.2 a hne).trans x.2.2⟩ fun b o hb e=>hs'.extBut b o (fun h=>hb (by simp[h])) e
   unfold cS
   rw[getElem?_map,Array.getElem?_toList,hx]
   rfl
  done:=fun s Q E x hQ=>by
   have hx:es[es.size]? = none:=Array.getElem?_eq_none (Nat.le_refl _)
   exact nU hh x.2.1 x.2.2 hd hf (fun A' E' Q' q'=>il bt x.2.2 hd hf hp hl (by rw[hb _ (Nat.le_refl _),hx];exact q')) fun h' he'=>hQ h' s.toks fun b o hb eo=>he' b o (fun h=>hb (by simp[h])) eo
  self:=fun _ _ _ _ x hQ=>gd x.2.1 hQ }
theorem mz {ys:List Nat}(hh:A.handled=none)(hne:a≠it)(hnt:tp≠it)(hd:o.data=.set es ep t)(hf:t.fits es.size=true)(hy:ys.Perm (List.range es.size)) :
 Walks prog w A it [it,a,tp] [it] es.size (fun i v=>(cS (ys.map fun p=>es.getD p (0,.none)))[i]? = some v) (fun i h=>i≤es.size∧dR h it (.ref tp) i a es.size ep∧h.get? a=some o∧h.IsTuple tp (ys.map fun (p:Nat)=>rawInt (p:Int)).toArray):=by
 have hyl:ys.length=es.size:=by rw[hy.length_eq,length_range]
 exact {
  sub:=fun b hb=>by simp at hb;simp[hb]
  frame:=fun _ _ _ x hk=>⟨x.1,x.2.1.at fun o e=>hk it (by simp) o e,hk a (by simp) o x.2.2.1,let ⟨ot,h1,r⟩:=x.2.2.2;⟨ot,hk tp (by simp) ot h1,r⟩⟩
  item:=fun i s Q E hi x hQ=>by
   have hyi:ys[i]? = some (ys[i]'(by lia)):=getElem?_eq_getElem (by lia)
   have hpl:ys[i]'(by lia)<es.size:=mem_range.mp (hy.mem_iff.mp (getElem_mem _))
   have hx:es[ys[i]'(by lia)]? = some (es[ys[i]'(by lia)].1,es[ys[i]'(by lia)].2):=Array.getElem?_eq_getElem hpl
   refine qv (p:=ys[i]'(by lia)) (tk:=0) x.2.1 x.2.2.1 hd hf x.2.2.2 (by rw[List.getElem?_toArray,getElem?_map,hyi];rfl) hx fun h' hit' hs'=>?_
   refine hQ _ h' s.toks ?_ ⟨hi,hit',(hs'.2 a hne).trans x.2.2.1,let ⟨ot,h1,r⟩:=x.2.2.2;⟨ot,(hs'.2 tp hnt).trans h1,r⟩⟩ fun b o hb e=>hs'.extBut b o (fun h=>hb (by simp[h])) e
   unfold cS
   rw[getElem?_map,getElem?_map,hyi]
   simp[Array.getD,hpl]
  done:=fun s Q E x hQ=>by
   refine rY hh x.2.1 x.2.2.1 hd hf x.2.2.2 ?_ fun h' he'=>hQ h' s.toks fun b o hb eo=>he' b o (fun h=>hb (by simp[h])) eo
   rw[List.getElem?_toArray]
   exact getElem?_eq_none (by rw[length_map];lia)
  self:=fun _ _ _ _ x hQ=>gd x.2.1 hQ }
end
end SW
namespace SW
open PySem PySem.Spec PyProof.Rows
section
variable {prog:Program}{w:World}{A:Around}{E:Value→Shared→Prop}{s:Shared}{a:Addr}{ms:List Int}
theorem qD {Q:Value→Shared→Prop}(hS:SetI prog w a ms s.heap)
 (k:∀ (I tp:Addr) (h':Heap) (d:Drawn) (ord:List Value) (ks:List Int) (St:Nat→Heap→Prop),(∀ b o,s.heap.get? b=some o→h'.get? b=some o)→s.heap.objs.size≤I→I<h'.objs.size→(tp=a∨s.heap.objs.size≤tp)→IntsAre ord ks→ks.Perm ms →
  (∀ A':Around,A'.handled=none→Walks prog w A' I [I,a,tp] [I] ms.length (fun i v=>ord[i]? = some v) St)→St 0 h'→Q (.ref I) { s with heap:=h',drawn:=d }):wpAny (model prog w) A (pyIter (.ref a)) Q E s:=by
 obtain⟨o,es,ep,t,ho,hex,hd,hel,hm,hnd,hb,hf,hok⟩:=hS
 have hT:s.TypeIs (.ref a) "set" :=⟨o,ho,hex.1⟩
 have hml:ms.length=es.size:=by rw[←hm,length_map,Array.length_toList]
 have hints:∀ l:List (Int×Value),(∀ e∈l,e∈es.toList)→IntsAre (cS l) (l.map ivE):=fun l hl=>by
  induction l with
  | nil=>exact .nil
  | cons e r ih =>
    obtain⟨t',ht⟩:=qE hel (hl e mem_cons_self)
    show IntsAre (e.2 :: cS r) (ivE e :: r.map ivE)
    rw[ht]
    exact .cons _ _ (ih fun x hx=>hl x (mem_cons_of_mem _ hx))
 have has:a<s.heap.objs.size:=Heap.lt_size ho
 refine wpAny_pyIter_slot hT F.slot_set_iter (wpAny_call_entry F.slot_set_iter hT iF ?_ (F.args_set_iter_1 _))
 unfold Builtin.«frozenset.__iter__» Builtin.Frozenset.slot0
 refine wpAny_bind ?_
 refine wpAny_bind (wpAny_of_eq (a:=(Value.ref a,[])) rfl ?_)
 refine wpAny_of_eq (a:=a) rfl ?_
 refine wpAny_bind ?_
 unfold Builtin.Frozenset.sizeOf
 refine wpAny_bind (wpAny_setEntries_of ho hd hf (wpAny_pure ?_))
 refine wpAny_bind ?_
 unfold setDrawn
 refine wpAny_bind (wpAny_setState_of ho hd hf ?_)
 dsimp only
 refine wpAny_bind ?_
 unfold setsByText
 refine wpAny_bind (wpAny_askSetting (wpAny_pure ?_))
 refine wpAny_pure ?_
 show wpAny _ _ (if (!(w.params.followText "set-order") && (!t.plain && decide (es.size>1)))=true then _ else _) _ _ s
 cases bt:w.params.followText "set-order" with
 | true =>
   rw[if_neg (by simp)]
   refine wpAny_bind (wpAny_pure ?_)
   refine wpAny_bind (wpAny_setEpoch_of ho hd hf ?_)
   refine wpAny_bind ?_
   unfold newFields
   refine wpAny_newObj_type (wpAny_pure ⟨_,rfl,"set_iterator",_,⟨_,Heap.get?_push_size _ rfl,rfl⟩,aG.lookup,?_⟩)
   refine k s.heap.objs.size a _ s.drawn (cS (pickOrder (w.params.setOrder a ep) es).toList) ((pickOrder (w.params.setOrder a ep) es).toList.map ivE) (fun i h=>i≤es.size∧dR h s.heap.objs.size (rawInt ((0:Nat):Int)) i a es.size ep∧h.get? a=some o) (fun b o e=>Heap.get?_push_of_some _ e) (Nat.le_refl _) (by rw[size_push'];exact Nat.lt_succ_self _) (.inl rfl)
    (hints _ fun e he=>(eS _ es).mem_iff.mp he) (hm▸(eS _ es).map ivE) (fun A' hh'=>by rw[hml];exact ou hh' (Nat.ne_of_lt has) (Nat.ne_of_lt has) bt hd hf) ⟨Nat.zero_le _,⟨_,Heap.get?_push_size _ rfl,rfl,rfl⟩,Heap.get?_push_of_some _ ho⟩
 | false =>
   obtain⟨hled,hris⟩:=hok bt
   by_cases c:(!t.plain && decide (es.size>1))=true
   ·rw[if_pos (by simpa using c)]
    refine wpAny_bind (iI es.size (List.range es.size) s _ (by simp) fun ys d hy=>?_)
    have hyl:ys.length=es.size:=by rw[hy.length_eq,length_range]
    refine wpAny_bind (wpAny_newTuple ?_ (by rw[length_map,hyl];exact fits_of_scanBound hb))
    refine wpAny_bind (wpAny_setEpoch_of (s:={ s with heap:=s.heap.push (seqObj "tuple" (ys.map fun (i:Nat)=>rawInt (i:Int)).toArray 0),drawn:=d }) (Heap.get?_push_of_some _ ho) hd hf ?_)
    refine wpAny_bind ?_
    unfold newFields
    refine wpAny_newObj_type (wpAny_pure ⟨_,rfl,"set_iterator",_,⟨_,Heap.get?_push_size _ rfl,rfl⟩,aG.lookup,?_⟩)
    have hsz:(s.heap.push (seqObj "tuple" (ys.map fun (i:Nat)=>rawInt (i:Int)).toArray 0)).objs.size=s.heap.objs.size+1:=size_push' _ _
    have hpm:(ys.map fun p=>es.getD p (0,.none)).Perm es.toList:=by
     have h1:=hy.map fun p=>es.getD p (0,.none)
     refine h1.trans (List.Perm.of_eq ?_)
     apply ext_getElem?
     intro j
     by_cases hj:j<es.size
     ·rw[getElem?_map,getElem?_range hj,Array.getElem?_toList]
      simp[Array.getD,hj]
     ·rw[getElem?_eq_none (by simp;lia),getElem?_eq_none (by simp;lia)]
    refine k (s.heap.push (seqObj "tuple" (ys.map fun (i:Nat)=>rawInt (i:Int)).toArray 0)).objs.size s.heap.objs.size _ d (cS (ys.map fun p=>es.getD p (0,.none))) ((ys.map fun p=>es.getD p (0,.none)).map ivE) (fun i h=>i≤es.size∧dR h (s.heap.push (seqObj "tuple" (ys.map fun (i:Nat)=>rawInt (i:Int)).toArray 0)).objs.size (.ref s.heap.objs.size) i a es.size ep∧h.get? a=some o∧h.IsTuple s.heap.objs.size (ys.map fun (p:Nat)=>rawInt (p:Int)).toArray)
     (fun b o e=>Heap.get?_push_of_some _ (Heap.get?_push_of_some _ e)) (by rw[hsz];exact Nat.le_succ _) (by rw[size_push' (s.heap.push _)];exact Nat.lt_succ_self _) (.inr (Nat.le_refl _)) (hints _ fun e he=>hpm.mem_iff.mp he) (hm▸hpm.map ivE)
     (fun A' hh'=>by rw[hml];exact mz hh' (by rw[hsz];exact Nat.ne_of_lt (Nat.lt_succ_of_lt has)) (by rw[hsz];exact Nat.ne_of_lt (Nat.lt_succ_self _)) hd hf hy)
     ⟨Nat.zero_le _,⟨_,Heap.get?_push_size _ rfl,rfl,rfl⟩,Heap.get?_push_of_some _ (Heap.get?_push_of_some _ ho),⟨_,Heap.get?_push_of_some _ (Heap.get?_push_size _ rfl),rfl,_,rfl⟩⟩
   ·rw[if_neg (by simpa using c)]
    refine wpAny_bind (wpAny_pure ?_)
    refine wpAny_bind (wpAny_setEpoch_of ho hd hf ?_)
    refine wpAny_bind ?_
    unfold newFields
    refine wpAny_newObj_type (wpAny_pure ⟨_,rfl,"set_iterator",_,⟨_,Heap.get?_push_size _ rfl,rfl⟩,aG.lookup,?_⟩)
    have hp:t.plain=true∨es.size≤1:=by
     cases h:t.plain with
     | true=>exact .inl rfl
     | false=>right;rw[h] at c;simp at c;assumption
    have hr:Ris t.place:=by
     rcases hp with z | z
     ·exact hris z
     ·have hsz:t.place.size≤1:=by
       unfold SetTable.fits at hf
       simp only[Bool.and_eq_true,beq_iff_eq] at hf
       lia
      unfold Ris
      have hll:t.place.toList.length≤1:=by simpa using hsz
      match t.place.toList,hll with
      | [],_=>exact List.Pairwise.nil
      | [x],_=>exact List.pairwise_singleton _ _
      | _ :: _ :: _,h=>exact absurd h (by simp)
    exact k s.heap.objs.size a _ s.drawn (cS es.toList) (es.toList.map ivE) (fun i h=>i≤es.size∧dR h s.heap.objs.size (rawInt ((jV t i:Nat):Int)) i a es.size ep∧h.get? a=some o) (fun b o e=>Heap.get?_push_of_some _ e) (Nat.le_refl _) (by rw[size_push'];exact Nat.lt_succ_self _) (.inl rfl)
     (hints _ fun e he=>he) (hm▸.refl _) (fun A' hh'=>by rw[hml];exact my hh' (Nat.ne_of_lt has) (Nat.ne_of_lt has) bt hd hf hp hled hr) ⟨Nat.zero_le _,⟨_,Heap.get?_push_size _ rfl,rfl,rfl⟩,Heap.get?_push_of_some _ ho⟩
theorem qG (hT:s.TypeIs (.ref a) "set"){Q:Bool→Shared→Prop}(h:Q false s):wpAny (model prog w) A (Builtin.List.listLengthHint (.ref a)) Q E s:=by
 unfold Builtin.List.listLengthHint
 refine wpAny_bind (wpAny_specialOf hT rQ ?_)
 generalize hid:("set.__len__" : String)=id0
 wp_delta
 rw[show splitId id0=some ("set","__len__") from by subst hid;decide +kernel]
 subst hid
 refine wpAny_bind (wpAny_isInstance (T:="set") (b:=true) hT (by rw[isSubtype_type];kernel_rfl) ?_)
 refine wpAny_ite_split (fun hab=>absurd hab (by decide)) (fun _=>?_)
 refine wpAny_ite_split (fun _=>?_) (fun hab=>absurd (by decide +kernel) hab)
 refine wpAny_bind (wpAny_typeOf hT ?_)
 exact wpAny_pure h
theorem m4 {R:Result→Shared→Prop}(hh:A.handled=none)(hS:SetI prog w a ms s.heap)(S:Addr)(hSa:S≠a)(res:Value)(c₀:Nat)(hS0:s.heap.get? S=some { cls:=.type "list",data:=.seq #[] c₀ })
 (hR:∀ (h':Heap) (tk:Nat) (d:Drawn) (acc':Array Value) (c':Nat) (ks:List Int),(∀ b o,b≠S→s.heap.get? b=some o→h'.get? b=some o)→h'.get? S=some { cls:=.type "list",dict:=none,data:=.seq acc' c',slots:=#[] } →
  IntsAre acc'.toList ks→ks.Perm ms→R (.ok (.ret res)) { s with heap:=h',toks:=tk,drawn:=d }) :
 wpAny (model prog w) A.in1 (Builtin.List.listExtendWith (.ref S) (.ref a) res)
  (fun fin s'=>match fin with | .done f=>R (.ok f) s' | .again c'=>c'.quiet=true∧codeAny (model prog w) A c' R s') (fun e s'=>R (.error e) s') s:=by
 obtain⟨o,es,ep,t,ho,hex,hd,hel,hm,hnd,hb,hf,hok⟩:=id hS
 have hml:ms.length=es.size:=by rw[←hm,length_map,Array.length_toList]
 have hT1:s.TypeIs (.ref a) "set" :=⟨o,ho,hex.1⟩
 unfold Builtin.List.listExtendWith
 refine wpAny_bind (wpAny_typeOf (T:="set") hT1 ?_)
 have h1:Builtin.List.listSameRef (.ref S) (.ref a)=false:=by simp[Builtin.List.listSameRef,hSa]
 have h2:(Value.type "set" == Value.type "list")=false:=by decide
 have h3:(Value.type "set" == Value.type "tuple")=false:=by decide
 simp only[h1,h2,h3,Bool.or_false,Bool.false_eq_true,if_false]
 refine wpAny_bind (qD hS fun I tp h' d ord ks St hk hI hI2 htp hints hperm hW hst=>?_)
 have hSlt:S<s.heap.objs.size:=Heap.lt_size hS0
 have hT2:Shared.TypeIs { s with heap:=h',drawn:=d } (.ref a) "set" :=⟨o,hk _ _ ho,hex.1⟩
 have hS₂:=hk _ _ hS0
 refine wpAny_bind (wpAny_holding (qG hT2 ?_))
 have hIS:S≠I:=Nat.ne_of_lt (Nat.lt_of_lt_of_le hSlt hI)
 have htpS:¬ S=tp:=fun z=>by
  rcases htp with e | e
  ·exact hSa (z.trans e)
  ·rw[←z] at e;exact absurd (Nat.lt_of_lt_of_le hSlt e) (Nat.lt_irrefl _)
 have hSf:S∉[I,a,tp]:=by
  simp only[mem_cons,not_mem_nil,or_false,not_or]
  exact⟨hIS,hSa,htpS⟩
 have hol:ord.length=ks.length:=IntsAre.length hints
 have W:=(hW A.in1 hh).toS
 have key:∀ (h₁:Heap) (c₁:Nat),St 0 h₁→(∀ b o,b≠S→h'.get? b=some o→h₁.get? b=some o)→h₁.get? S=some { cls:=.type "list",data:=.seq #[] c₁ } →
  codeAny (model prog w) A (.builtin "list.extend.loop" ⟨[.ref S,.ref I,res],[]⟩) R { s with heap:=h₁,drawn:=d }:=by
  intro h₁ c₁ hst₁ hk₁ hS₁
  refine codeAny_extend_loopS (s:={ s with heap:=h₁,drawn:=d }) W (by rw[hml];exact fits_of_scanBound hb) S hSf res ms.length 0 #[] c₁ rfl (Nat.zero_le _) hst₁ hS₁ (ItemsOf.nil _) fun s' acc' c' hm' hS' hacc=>?_
  have hav:acc'.toList=ord:=by
   apply ext_getElem?
   intro j
   have hlen:acc'.toList.length=ord.length:=by rw[Array.length_toList,hacc.1,hol,hperm.length_eq]
   by_cases hj:j<acc'.toList.length
   ·have e:=hacc.2 j _ (by rw[←Array.getElem?_toList];exact getElem?_eq_getElem hj)
    rw[e,getElem?_eq_getElem hj]
   ·rw[getElem?_eq_none (by lia),getElem?_eq_none (by lia)]
  have he:s'={ s with heap:=s'.heap,toks:=s'.toks,drawn:=d }:=by
   obtain⟨h'',g',d',tk',os'⟩:=s'
   have eg:g'=s.gens:=hm'.gens
   have ed:d'=d:=hm'.drawn
   have eo:os'=s.os:=hm'.os
   subst eg;subst ed;subst eo
   rfl
  rw[he]
  refine hR s'.heap s'.toks d acc' c' ks (fun b o hbS e=>?_) hS' (hav▸hints) hperm
  refine hm'.heap b o (fun hmem=>?_) (hk₁ b o hbS (hk _ _ e))
  rcases mem_cons.mp hmem with z | hmem
  ·exact hbS z
  ·have:=mem_singleton.mp hmem
   have hlt:=Heap.lt_size e
   rw[this] at hlt
   exact absurd (Nat.lt_of_lt_of_le hlt hI) (Nat.lt_irrefl _)
 refine wpAny_ite_split (fun _=>?_) (fun _=>wpAny_pure ⟨plainId_quiet PySem.F.plain_extend_loop _,key h' c₀ hst (fun b o _ e=>e) hS₂⟩)
 refine wpAny_bind (wpAny_rule ?_)
 refine wpAny_bind ?_
 show wpAny _ _ (updateSeq S (·.push .none) >>= fun _=>updateSeq S (·.pop)) _ _ _
 refine wpAny_bind (wpAny_updateSeq hS₂ rfl ?_)
 have hS₃:=Heap.get?_update_self (Obj.mapSeq (·.push Value.none)) hS₂ rfl
 refine wpAny_updateSeq (hz:=by seq_fits) hS₃ rfl ?_
 have hS₄:=Heap.get?_update_self (Obj.mapSeq (·.pop)) hS₃ rfl
 have oth:∀ b o,b≠S→h'.get? b=some o→((h'.update S (Obj.mapSeq (·.push Value.none))).update S (Obj.mapSeq (·.pop))).get? b=some o :=
  fun b o hb e=>(Heap.get?_update_other _ _ (Ne.symm hb)).trans ((Heap.get?_update_other _ _ (Ne.symm hb)).trans e)
 refine wpAny_pure ⟨plainId_quiet PySem.F.plain_extend_loop _,key _ _ ?_ oth hS₄⟩
 exact (hW A.in1 hh).frame 0 _ _ hst fun b hb o e=>oth b o (fun z=>hSf (z▸hb)) e
theorem collect_set {R:List Value→Shared→Prop}(hh:A.handled=none)(hS:SetI prog w a ms s.heap)
 (h:∀ (h':Heap) (tk:Nat) (d:Drawn) (vs:List Value) (ks:List Int),(∀ b o,s.heap.get? b=some o→h'.get? b=some o)→IntsAre vs ks→ks.Perm ms→R vs { s with heap:=h',toks:=tk,drawn:=d }) :
 wpAny (model prog w) A (collect (.ref a)) R E s:=by
 obtain⟨o,es,ep,t,ho,hex,_⟩:=id hS
 have has:a<s.heap.objs.size:=Heap.lt_size ho
 unfold collect
 refine wpAny_bind (wpAny_runValue (codeAny_builtin entry_proto_collect' ?_))
 rw[Around.under_plainId PySem.F.plain_proto_collect _]
 show wpAny _ A.in1 (newList [] >>= fun l=>again (.builtin "list.__iadd__" ⟨[l,.ref a],[]⟩)) _ _ s
 refine wpAny_bind (wpAny_newObj_type ?_)
 refine wpAny_pure ⟨plainId_quiet PySem.F.plain_list_iadd _,codeAny_builtin entry_list_iadd' ?_⟩
 rw[Around.under_plainId PySem.F.plain_list_iadd _]
 have hS₁:(s.heap.push { cls:=.type "list",data:=.seq ([]:List Value).toArray }).get? s.heap.objs.size=some { cls:=.type "list",data:=.seq #[] }:=Heap.get?_push_size _ rfl
 have hSet₁:SetI prog w a ms (s.heap.push { cls:=.type "list",data:=.seq ([]:List Value).toArray }):=hS.at fun o e=>Heap.get?_push_of_some _ e
 show wpAny _ A.in1 (Builtin.List.listExtendWith (.ref s.heap.objs.size) (.ref a) (.ref s.heap.objs.size)) _ _ _
 have key:=m4 (A:=A) (s:={ s with heap:=s.heap.push { cls:=.type "list",data:=.seq ([]:List Value).toArray } })
  (R:=fun (q:Result) (s':Shared)=>∃ (h':Heap) (tk:Nat) (d:Drawn) (acc':Array Value) (c':Nat) (ks:List Int),q=.ok (.ret (.ref s.heap.objs.size))∧s'={ s with heap:=h',toks:=tk,drawn:=d } ∧
   (∀ b o,s.heap.get? b=some o→h'.get? b=some o)∧h'.get? s.heap.objs.size=some { cls:=.type "list",dict:=none,data:=.seq acc' c',slots:=#[] }∧IntsAre acc'.toList ks∧ks.Perm ms)
  hh hSet₁ s.heap.objs.size (Nat.ne_of_gt has) (.ref s.heap.objs.size) 0 hS₁
  (fun h' tk d acc' c' ks hk hS' hi hp=>⟨h',tk,d,acc',c',ks,rfl,rfl,fun b o e=>hk b o (Nat.ne_of_lt (Heap.lt_size e)) (Heap.get?_push_of_some _ e),hS',hi,hp⟩)
 refine wpAny_mono key (fun fin s' x=>?_) fun e s' x=>?_
 ·cases fin with
  | done f =>
    obtain⟨h',tk,d,acc',c',ks,e,rfl,hk,hS',hi,hp⟩:=x
    cases e
    show wpAny _ A (load s.heap.objs.size >>= _) _ _ _
    refine wpAny_bind (wpAny_load hS' ?_)
    exact wpAny_pure (h h' tk d _ ks hk hi hp)
  | again c₁ =>
    refine⟨x.1,codeAny_mono x.2 fun q s₂ y=>?_⟩
    obtain⟨h',tk,d,acc',c',ks,rfl,rfl,hk,hS',hi,hp⟩:=y
    show wpAny _ A (load s.heap.objs.size >>= _) _ _ _
    refine wpAny_bind (wpAny_load hS' ?_)
    exact wpAny_pure (h h' tk d _ ks hk hi hp)
 ·obtain⟨_,_,_,_,_,_,e',_⟩:=x
  cases e'
end
end SW
namespace TS
open PySem PySem.Spec PyProof.Rows
section
variable {prog:Program}{w:World}{A:Around}{E:Value→Shared→Prop}{s:Shared}
theorem sorted_by_any {r:Addr}{Q:Value→Shared→Prop}
 (h:wpAny (model prog w) A.in1 (collect (.ref r)) (fun vs s1=>∃ R:Value→Value→Bool,(∀ v,R v v=false)∧vs.length≤sizeLine∧jL prog w s1.heap.objs.size s1.heap vs R ∧
  ∀ (out:List Value) (h':Heap) (n':Nat),out.Perm vs→out.Pairwise (fun u v=>R v u=false)→(∀ b o,s1.heap.get? b=some o→h'.get? b=some o)→h'.get? s1.heap.objs.size=some (seqObj "list" out.toArray n') →
    Q (.ref s1.heap.objs.size) { s1 with heap:=h' }) E s) :
 wpAny (model prog w) A (call (.builtin "sorted") [.ref r]) Q E s:=by
 refine Calls.call_function_entry kind_sorted plain_sorted entry_sorted (args_sorted1 _) ?_
 unfold Builtin.«sorted»
 refine wpAny_bind (m:=checkCount "sorted" 1 1 _) (wpAny_pure ?_)
 refine wpAny_bind (wpAny_mono h (fun vs s1 ⟨R,hR,hz,hS,k⟩=>?_) fun _ _ e=>e)
 refine wpAny_bind (wpAny_newList ?_ hz)
 refine wpAny_bind (wpAny_holding (eC (s:={ s1 with heap:=s1.heap.push (seqObj "list" vs.toArray 0) }) (D:=s1.heap.objs.size) (n:=0) (Heap.get?_push_size _ rfl) hz hR (fun A' s' hk h2=>hS A' s' (fun b o hb e=>hk b o hb (Heap.get?_push_of_some _ e)) h2)
  fun out h' n' a1 a2 a3 a4=>?_))
 exact wpAny_pure ⟨_,rfl,k out h' n' a1 a2 (fun b o e=>a3 b o (Nat.ne_of_lt (Heap.lt_size e)) (Heap.get?_push_of_some _ e)) a4⟩
end
end TS
namespace L2
open PySem PySem.Spec PyProof.Rows
section
variable {X:Cx}
theorem Inv.drawn {pins:List (Addr×Obj)}{σ:St}{H:Hp}{s:Shared}(I:Inv X pins σ H s)(d:Drawn):Inv X pins σ H { s with drawn:=d }:=⟨I.ok,I.os,I.bare,I.base,I.loc,I.cell,I.free,I.freeC,I.pin,I.hok,I.len⟩
def uU (X:Cx):List V→Hp→VK→Prop:=fun xs H Q=>∃ (p:Addr) (ns:List Int),xs=[.ref p]∧Rd H p (.lst (ns.map V.int))∧ns.length+1<scanBound∧∀ (l:Addr) (ms:List Int) H2,ms.Nodup→(∀ x,x∈ms↔x∈ns)→New H l (.ext (SW.SetI X.prog X.w l ms)) H2→Q (.ref l) H2
theorem uj (hc:X.calm=true):bQ X (.type "set") (uU X):=by
 intro pins s σ H xs us Q I r h
 obtain⟨p,ns,rfl,hp,hb,q⟩:=h
 obtain⟨u,rfl,ru⟩:=dL r
 cases ru
 obtain⟨its,rv,pl,hz⟩:=I.list (.inl hp)
 have hI:=iy rv
 have hl:=rv.length
 rw[length_map] at hl
 refine SW.call_set (I.ok.hd hc) pl.isList (by simpa using hI) (by simpa using (show its.length+1<scanBound by lia)) fun h' tk ms hS hm hk=>?_
 obtain⟨o,es,ep,t,ho,hrest⟩:=id hS
 have hnd:ms.Nodup:=hrest.2.2.2.2.1
 exact⟨.ref s.heap.objs.size,_,I.laid (t':=tk) (fun b u e=>hk b u (Heap.lt_size e) e) (Nat.le_refl _) (show aS X.prog X.w _ h' _ (.ext (SW.SetI X.prog X.w s.heap.objs.size ms)) from ⟨hS,⟨o,ho⟩,fun h1 h2 x k=>x.at k⟩),rfl,q _ ms _ hnd hm (.upd I.fresh)⟩
def qa (X:Cx):List V→Hp→VK→Prop:=fun xs H Q=>∃ (p:Addr) (ks:List Int),xs=[.ref p]∧H p=some (.ext (SW.SetI X.prog X.w p ks))∧∀ (l:Addr) (ms:List Int) H2,ms.Perm ks→ms.Pairwise (·≤·)→New H l (.lst (ms.map V.int)) H2→Q (.ref l) H2
theorem pZ (hc:X.calm=true):bQ X (.builtin "sorted") (qa X):=by
 intro pins s σ H xs us Q I r h
 obtain⟨p,ks,rfl,hp,q⟩:=h
 obtain⟨u,rfl,ru⟩:=dL r
 cases ru
 obtain⟨hS,_,_⟩:=(show aS X.prog X.w H s.heap p (.ext (SW.SetI X.prog X.w p ks)) from I.hok p _ hp)
 obtain⟨o,es,ep,t,ho,hex,hd,hel,hm,hnd,hb,_⟩:=id hS
 have hks:ks.length≤sizeLine:=by rw[←hm,length_map,Array.length_toList];exact fits_of_scanBound hb
 refine TS.sorted_by TS.rInt TS.rInt_irr (SW.collect_set (I.ok.hd hc) hS fun h1 tk d vs js hk hI hp=>?_)
 have hl:vs.length=ks.length:=(IntsAre.length hI).trans hp.length_eq
 refine⟨by lia,TS.sorts_ints hI,fun out h' n' a1 a2 a3 a4=>?_⟩
 obtain⟨ms,v1,v2,v3⟩:=ij hI a1 a2
 have hms:(ms.map V.int).length≤sizeLine:=by
  rw[v1.length,a1.length_eq];lia
 exact eD (s:={ s with drawn:=d }) (tk:=tk) (I.drawn d) (fun b o e=>a3 b o (hk b o e)) (fun b o e=>Heap.lt_size (hk b o e)) a4 v1 hms fun H2 n=>q _ ms H2 (v2.trans hp) v3 n
theorem lX {pins:List (Addr×Obj)}{σ:St}{H:Hp}{s:Shared}{D:Addr}(I:Inv X pins σ H s)(hD:∀ b o,s.heap.get? b=some o→b<D) :
 H D=none∧(D∈X.ex∨X.s₀.heap.objs.size≤D)∧D≠X.env.locals∧(∀ x c,X.env.cells.lookup x=some c→c≠D)∧(∀ p∈X.pn++pins,p.1≠D):=by
 obtain⟨m,⟨oL,_,_,eL,_⟩,_⟩:=I.loc
 have hL:=hD _ _ eL
 refine⟨?_,.inr (Nat.le_trans I.ok.above (Nat.le_of_lt hL)),Nat.ne_of_gt hL,fun x c e=>?_,fun p hp=>Nat.ne_of_lt (hD _ _ (I.pin p hp).1)⟩
 ·cases e:H D with
  | none=>rfl
  | some u =>
    obtain⟨ob,e2⟩:=(I.hok D u e).there
    exact absurd (hD D ob e2) (Nat.lt_irrefl _)
 ·obtain⟨v,⟨oc,e2,_⟩⟩:=I.cell x c e
  exact Nat.ne_of_lt (hD _ _ e2)
theorem Inv.tracks {pins:List (Addr×Obj)}{σ:St}{s:Shared}:∀ (es:List (Addr×Int×Int)) {H:Hp},Inv X pins σ H s→(es.map (·.1)).Nodup →
 (∀ e∈es,(H e.1=none∧(e.1∈X.ex∨X.s₀.heap.objs.size≤e.1)∧e.1≠X.env.locals∧(∀ x c,X.env.cells.lookup x=some c→c≠e.1)∧(∀ p∈X.pn++pins,p.1≠e.1))∧∃ its,aB [V.int e.2.1,V.int e.2.2] its∧IsTup s.heap e.1 its.toArray) →
 ∃ H',Inv X pins σ H' s∧ak H H'∧(∀ e∈es,H' e.1=some (.tup [.int e.2.1,.int e.2.2]))∧∀ b,(∀ e∈es,e.1≠b)→H' b=H b
 | [],H,I,_,_=>⟨H,I,ak.refl _,fun e h=>absurd h (by simp),fun b _=>rfl⟩
 | e :: es,H,I,hn,h=>by
   obtain⟨⟨f1,f2,f3,f4,f5⟩,its,rv,tp⟩:=h e mem_cons_self
   have I1:=I.track (o:=.tup [.int e.2.1,.int e.2.2]) f1 f2 f3 f4 f5 ⟨(by show 2≤sizeLine;decide),its,rv,tp⟩
   rw[map_cons,nodup_cons] at hn
   have hne:∀ g∈es,g.1≠e.1:=fun g hg z=>hn.1 (z▸mem_map.mpr ⟨g,hg,rfl⟩)
   obtain⟨H',I',s',t',o'⟩:=Inv.tracks es I1 hn.2 fun g hg=>by
    obtain⟨⟨g1,g2⟩,g3⟩:=h g (mem_cons_of_mem _ hg)
    exact⟨⟨by rw[aP (hne g hg)];exact g1,g2⟩,g3⟩
   have n1:New H e.1 (.tup [.int e.2.1,.int e.2.2]) (upd H e.1 (.tup [.int e.2.1,.int e.2.2])):=.upd f1
   refine⟨H',I',n1.same.trans s',fun g hg=>?_,fun b hb=>?_⟩
   ·rcases mem_cons.mp hg with z | hg
    ·rw[z];exact s' _ _ n1.is
    ·exact t' g hg
   ·rw[o' b fun g hg=>hb g (mem_cons_of_mem _ hg),aP (hb e mem_cons_self).symm]
def sJ (to:TE):TE:=fun σ H Q=>to σ H fun x H1=>∃ (d:Addr) (kvs:List (Key×V)),x=.ref d∧Rd H1 d (.dK kvs)∧∀ (v:Addr) H2,New H1 v (.ext fun h=>h.IsItemsView v d) H2→Q (.ref v) H2
theorem qh {o:Expr}{to:TE}{apos cpos:Pos}(ho:PE X o to)(hbase:attributeBase o "items" X.env (eval o X.env)=eval o X.env:=by rfl)(hline:(apos.endLine == cpos.line)=true:=by rfl) :
 PE X (.Call (.Attribute o "items" apos) [] [] cpos) (sJ to):=by
 intro pins s σ H Q I h
 refine wpAny_Call_method0_late hbase hline (thn (ho pins s σ H _ I h) fun v s1 ⟨x,H1,I1,r1,d,kvs,ex,hd,q1⟩=>?_)
 subst ex
 obtain rfl:v=Value.ref d:=r1
 obtain⟨t1,t2,hsys⟩:=mZ I1 (.inl ⟨kvs,hd⟩)
 obtain⟨_,_,vs,_,dd⟩:=eI I1.hok hd
 refine⟨"dict","dict.items",PySem.F.plainAttrs_dict,PySem.F.slot_dict_items,PySem.F.type_dict_items,t1,t2,Calls.callWith_builtin rfl (PySem.evalArgs_none ?_)⟩
 refine call_meetsIn PySem.F.slot_dict_items t1 PySem.F.entry_dict_items (PySem.F.args_dict_items_1 _) (meets_dict_items (aO X.prog X.w) d hsys) ⟨⟨vs,dd⟩,?_⟩
 have hv:(s1.heap.push { cls:=.type "dict_items",data:=.fields #[.ref d] }).IsItemsView s1.heap.objs.size d:=⟨_,Heap.get?_push_size _ rfl,rfl,rfl⟩
 exact⟨.ref s1.heap.objs.size,_,I1.laid (t':=s1.toks) (fun b u e=>Heap.get?_push_of_some _ e) (Nat.le_refl _) (show aS X.prog X.w _ _ _ (.ext fun h=>h.IsItemsView s1.heap.objs.size d) from ⟨hv,⟨_,Heap.get?_push_size _ rfl⟩,fun h1 h2 ⟨o,e,x⟩ k=>⟨o,k o e,x⟩⟩),rfl,q1 _ _ (.upd I1.fresh)⟩
theorem tF {kvs:List (Key×V)}{vs:List (Key×Value)}(r:KV kvs vs):∀ (j:Nat) (q:Key×Value),vs[j]? = some q→∃ v,kvs[j]? = some (q.1,v)∧az v q.2:=by
 unfold KV at r
 induction r with
 | nil=>intro j q e;simp at e
 | @cons p q ps qs h t ih =>
   intro j y e
   cases j with
   | zero =>
     simp at e
     subst e
     exact⟨p.2,by rw[←h.1];rfl,h.2⟩
   | succ j=>exact ih j y (by simpa using e)
def mN:List V→Hp→VK→Prop:=fun xs H Q=>∃ (v d:Addr) (es:List (Int×Int)),xs=[.ref v]∧H v=some (.ext fun h=>h.IsItemsView v d)∧Rd H d (.dK (es.map fun e=>(Sum.inl e.1,V.int e.2))) ∧
 ∀ (l:Addr) (fs:List (Addr×Int×Int)) H2,(fs.map (·.2)).Perm es→fs.Pairwise (fun e f=>TS.lexP f.2 e.2=false)→H l=none→ak H H2→H2 l=some (.lst (fs.map fun e=>V.ref e.1))→(∀ e∈fs,H2 e.1=some (.tup [.int e.2.1,.int e.2.2]))→Q (.ref l) H2
theorem mI (hc:X.calm=true):bQ X (.builtin "sorted") mN:=by
 intro pins s σ H xs us Q I r h
 obtain⟨v,d,es,rfl,hv,hd,q⟩:=h
 obtain⟨u,rfl,ru⟩:=dL r
 cases ru
 obtain⟨hview,_,_⟩:=(show aS X.prog X.w H s.heap v (.ext fun h=>h.IsItemsView v d) from I.hok v _ hv)
 obtain⟨hz,hsys,vs,kv,dd⟩:=eI I.hok hd
 obtain⟨ep,hat⟩:=dd.dictAt
 have hl:es.length=vs.length:=by have:=kv.length;rwa [length_map] at this
 rw[length_map] at hz
 refine TS.sorted_by_any (PySem.W.kdx_collect (A:=X.A.in1) (knd:=aO X.prog X.w) (kvs:=vs) (ep:=ep) (I.ok.hd hc) hview hat (by lia) fun h1 tk as hk1 hal hG=>?_)
 have hat1:∀ (j:Nat) (a:Addr) (e:Int×Int),as[j]? = some a→es[j]? = some e→∃ t t',h1.get? a=some { cls:=.type "tuple",data:=.seq #[.int e.1 t,.int e.2 t'] }:=fun j a e ha he=>by
  obtain⟨key,k,x,c1,c2,c3⟩:=hG.pairs j a ha
  obtain⟨y,d1,d2⟩:=tF kv j (k,x) c1
  rw[getElem?_map,he] at d1
  have d3:=Option.some.inj d1
  injection d3 with d4 d5
  have d4':Sum.inl e.1=k:=d4
  subst d4'
  have d5':V.int e.2=y:=d5
  subst d5'
  obtain⟨t,e6⟩:=Value.isInt_shape (k:=e.1) (v:=key) c2
  obtain⟨t',e7⟩:=d2
  have e7':x=.int e.2 t':=e7
  subst e6 e7'
  exact⟨t,t',c3⟩
 have hz1:(as.zip es).map (·.1)=as:=List.map_fst_zip (by lia)
 have hz2:(as.zip es).map (·.2)=es:=map_snd_zip (by lia)
 have htup:∀ g∈as.zip es,∃ t t',h1.get? g.1=some { cls:=.type "tuple",data:=.seq #[.int g.2.1 t,.int g.2.2 t'] }:=fun g hg=>by
  obtain⟨j,hj⟩:=mem_iff_getElem?.mp hg
  have ha:as[j]? = some g.1:=by rw[←hz1,getElem?_map,hj];rfl
  have he:es[j]? = some g.2:=by rw[←hz2,getElem?_map,hj];rfl
  exact hat1 j g.1 g.2 ha he
 have hpair:∀ g∈as.zip es,TS.IsPair h1 (.ref g.1)∧TS.kPair h1 (.ref g.1,.ref g.1)=g.2:=fun g hg=>by
  obtain⟨t,t',c⟩:=htup g hg
  exact⟨⟨g.1,_,g.2.1,t,g.2.2,t',0,rfl,c,rfl,rfl⟩,TS.kPair_of rfl c rfl⟩
 have hvs:as.map Value.ref=(as.zip es).map fun g=>Value.ref g.1:=by
  conv=>lhs;rw[←hz1]
  rw[map_map];rfl
 have hval:∀ v∈as.map Value.ref,∃ g∈as.zip es,v=.ref g.1:=fun v hv=>by
  rw[hvs] at hv
  obtain⟨g,hg,rfl⟩:=mem_map.mp hv
  exact⟨g,hg,rfl⟩
 refine⟨TS.rPair h1,TS.rPair_irr _,by rw[length_map];lia,TS.sorts_pairs (g:=h1) (fun b o e=>e) (fun v hv=>?_) (fun v hv z=>?_),fun out h' n' a1 a2 a3 a4=>?_⟩
 ·obtain⟨g,hg,rfl⟩:=hval v hv
  exact (hpair g hg).1
 ·obtain⟨g,hg,rfl⟩:=hval v hv
  obtain⟨t,t',c⟩:=htup g hg
  have z':g.1=h1.objs.size:=by injection z
  have hlt:=Heap.lt_size c
  rw[z'] at hlt
  exact absurd hlt (Nat.lt_irrefl _)
 ·rw[hvs] at a1
  obtain⟨fs,p1,e1⟩:=fo a1 (as.zip es) rfl
  subst e1
  have hw:fs.Pairwise (fun e f=>TS.lexP f.2 e.2=false):=by
   rw[pairwise_map] at a2
   refine a2.imp_of_mem fun {x y} hx hy qq=>?_
   have q2:TS.lexP (TS.kPair h1 (.ref y.1,.ref y.1)) (TS.kPair h1 (.ref x.1,.ref x.1))=false:=qq
   rw[(hpair x (p1.mem_iff.mp hx)).2,(hpair y (p1.mem_iff.mp hy)).2] at q2
   exact q2
  have hkeep:∀ b o,s.heap.get? b=some o→h'.get? b=some o:=fun b o e=>a3 b o (hk1 b o e)
  have I1:Inv X pins σ H { s with heap:=h',toks:=tk }:=I.kept hkeep
  have hab:∀ g∈fs,s.heap.objs.size<g.1:=fun g hg=>hG.above _ (by rw[←hz1];exact mem_map.mpr ⟨g,p1.mem_iff.mp hg,rfl⟩)
  have hnd:(fs.map (·.1)).Nodup:=by
   have h0:(fs.map (·.1)).Perm as:=hz1▸p1.map (·.1)
   rw[h0.nodup_iff]
   exact hG.rise.imp fun h=>Nat.ne_of_lt h
  obtain⟨H',I',s',t',o'⟩:=Inv.tracks fs I1 hnd fun g hg=>by
   obtain⟨t,t',c⟩:=htup g (p1.mem_iff.mp hg)
   exact⟨lX I fun b o e=>Nat.lt_trans (Heap.lt_size e) (hab g hg),[.int g.2.1 t,.int g.2.2 t'],.cons ⟨t,rfl⟩ (.cons ⟨t',rfl⟩ .nil),_,a3 _ _ c,rfl,0,rfl⟩
  have hD:∀ b o,s.heap.get? b=some o→b<h1.objs.size:=fun b o e=>Heap.lt_size (hk1 b o e)
  obtain⟨f1,f2,f3,f4,f5⟩:=lX I hD
  have hneD:∀ g∈fs,g.1≠h1.objs.size:=fun g hg=>by
   obtain⟨t,t',c⟩:=htup g (p1.mem_iff.mp hg)
   exact Nat.ne_of_lt (Heap.lt_size c)
  have f1':H' h1.objs.size=none:=by rw[o' _ hneD];exact f1
  have hms:(fs.map fun e=>V.ref e.1).length≤sizeLine:=by
   rw[length_map,p1.length_eq,List.length_zip]
   lia
  have n1:New H' h1.objs.size (.lst (fs.map fun e=>V.ref e.1)) (upd H' h1.objs.size (.lst (fs.map fun e=>V.ref e.1))):=.upd f1'
  exact⟨.ref h1.objs.size,_,I'.track (o:=.lst (fs.map fun e=>V.ref e.1)) f1' f2 f3 f4 f5 ⟨hms,_,n',fi fs,a4⟩,rfl,q _ fs _ (hz2▸p1.map (·.2)) hw f1 (s'.trans n1.same) n1.is fun e he=>n1.same _ _ (t' e he)⟩
def jR (td ty tx:TE):TE:=fun σ H Q=>td σ H fun x H1=>∃ a:Addr,x=.ref a∧IsD H1 a∧ty σ H1 fun y H2=>tx σ H2 fun z H3=>∃ (kvs:List (Key×V)) (k:Key),H3 a=some (.dK kvs)∧y=kV k∧kvs.length<sizeLine ∧
 (∀ v,bo kvs k=some v→Q v H3)∧(bo kvs k=none→∀ H4,Chg H3 a (.dK (cz kvs k z)) H4→Q z H4)
theorem f6 {o e f:Expr}{td ty tx:TE}{apos cpos:Pos}(ho:PE X o td)(he:PE X e ty)(hf:PE X f tx)(m:M2 X o "setdefault" apos e f cpos):PE X (.Call (.Attribute o "setdefault" apos) [e,f] [] cpos) (jR td ty tx):=by
 intro pins s σ H Q I h
 refine wpAny_Call_method m.base m.few m.line PySem.F.plainAttrs_dict PySem.F.slot_dict_setdefault PySem.F.type_dict_setdefault (thn (ho pins s σ H _ I h) fun u s1 ⟨x,H1,I1,rx,a,ex,d,q1⟩=>?_)
 subst ex
 obtain rfl:u=Value.ref a:=rx
 obtain⟨t1,t2,_⟩:=mZ I1 d
 refine⟨t1,t2,?_⟩
 rw[m.trees]
 refine Calls.callWith_builtin rfl (Calls.evalArgs_plain (Calls.spliced_cons (thn (he pins s1 σ H1 _ I1 q1) fun iv s2 ⟨y,H2,I2,ry,q2⟩ =>
  Calls.spliced_cons (thn (hf pins s2 σ H2 _ I2 q2) fun fv s3 ⟨z,H3,I3,rz,kvs,k,ea,ey,hl,g1,g2⟩=>Calls.spliced_nil ?_))))
 subst ey
 obtain⟨hz,hsys,vs,rel,dd⟩:=qM I3.hok ea
 have hz':vs.length≤sizeLine:=by rw[←rel.length];exact hz
 refine call_meetsIn PySem.F.slot_dict_setdefault dd.typeIs PySem.F.entry_dict_setdefault (PySem.F.args_dict_setdefault_3 _ _ _) (kt_meets_setdefault (aO X.prog X.w) a (fQ ry) hsys fv) ⟨vs,dd,hz',fun v hv=>?_,fun hn h' dd' hs=>?_⟩
 ·have r:=rel.val k
  rw[hv] at r
  cases e:bo kvs k with
  | none=>rw[e] at r;exact r.elim
  | some y =>
    rw[e] at r
    exact⟨y,H3,I3.tok _,r,g1 y e⟩
 ·have r:=rel.val k
  rw[hn] at r
  have e:bo kvs k=none:=by
   cases e:bo kvs k with
   | none=>rfl
   | some y=>rw[e] at r;exact r.elim
  have hl':(cz kvs k z).length≤sizeLine:=by have:=eE kvs k z;lia
  have hx:∃ q,h'.get? a=some q:=let ⟨q,_,_,hq,_⟩:=dd';⟨q,hq⟩
  exact⟨z,_,gU I3 (t':=s3.toks+1) (by rw[ea];exact True.intro) hs hx (ku hl' hsys (rel.put k rz) dd'),rz,g2 e _ .upd⟩
end
end L2
namespace L2
open PySem PySem.Spec PyProof.Rows
theorem cj {osc sc:Scope}{N N':List Str}{ix:List (Option Nat)}(h:gm osc sc N N' ix=true):gm osc sc N N' ix=true:=h
structure Blt (mg:Str→Option Value):Prop where
 len:mg "len" = none
 list:mg "list" = none
 int:mg "int" = none
 bool:mg "bool" = none
 tuple:mg "tuple" = none
 str:mg "str" = none
 sum:mg "sum" = none
 sorted:mg "sorted" = none
 max:mg "max" = none
 isi:mg "isinstance" = none
 enumerate:mg "enumerate" = none
 set:mg "set" = none
 range:mg "range" = none
 reversed:mg "reversed" = none
 zip:mg "zip" = none
 verr:mg "ValueError" = none
 dict:mg "dict" = none
theorem small {n:Nat}(h:n≤1000):n≤sizeLine:=Nat.le_of_lt (jn h)
theorem jU {n:Nat}(h:n<1000):n<sizeLine:=jn (Nat.le_of_lt h)
theorem aJ {A:Around}{k:Nat}(hr:dh k A):A.units+8<cLine:=Nat.lt_of_le_of_lt (Nat.add_le_add_left (by decide:8≤64) _) hr.units
theorem tX {α:Type}{xs:List α}{i:Int}(h0:0≤i)(h1:i<xs.length):∃ v,atI xs i=some v∧xs[i.toNat]? = some v:=by
 have hj:i.toNat<xs.length:=by lia
 refine⟨xs[i.toNat],?_,getElem?_eq_getElem hj⟩
 have:=kD (xs:=xs) (j:=i.toNat) (v:=xs[i.toNat]) (getElem?_eq_getElem hj)
 rwa [show ((i.toNat:Nat):Int)=i by lia] at this
theorem b5 {zs:List Int}{i:Int}(h0:0≤i)(h1:i<zs.length):atI (zs.map V.int) i=some (.int (zs.getD i.toNat 0)):=by
 obtain⟨v,e1,e2⟩:=tX (xs:=zs.map V.int) h0 (by simpa using h1)
 rw[e1]
 rw[getElem?_map] at e2
 have hj:i.toNat<zs.length:=by lia
 rw[getElem?_eq_getElem hj] at e2
 simp only[Option.map_some,Option.some.injEq] at e2
 rw[←e2,getD_eq_getElem?_getD,getElem?_eq_getElem hj]
 rfl
theorem cA {zs:List Int}{i:Nat}{x:V}(h:(zs.map V.int)[i]? = some x):∃ z,zs[i]? = some z∧x=.int z:=by
 rw[getElem?_map] at h
 cases e:zs[i]? with
 | none=>rw[e] at h;cases h
 | some z=>rw[e] at h;exact⟨z,rfl,(Option.some.inj h).symm⟩
theorem am {α:Type}{xs:List α}{i:Nat}{x:α}(h:xs[i]? = some x):i<xs.length:=(List.getElem?_eq_some_iff.mp h).1
def Tl {α:Type}(sc:α→List V)(H:Hp)(l:Addr)(xs:List α):Prop :=
 ∃ ps:List Addr,H l=some (.lst (ps.map V.ref))∧ps.length=xs.length∧∀ (i:Nat) p x,ps[i]? = some p→xs[i]? = some x→H p=some (.tup (sc x))
abbrev scT (t:Int×Int):List V:=[.int t.1,.int t.2]
abbrev scS (t:Int×Bool):List V:=[.int t.1,.bl t.2]
abbrev scP (t:Int×Int×Bool):List V:=[.int t.1,.int t.2.1,.bl t.2.2]
abbrev Til:=Tl scT
abbrev Row:=Tl scS
abbrev Prt:=Tl scP
section
variable {α:Type}{sc:α→List V}{H H' H2:Hp}{l:Addr}{xs ys:List α}
theorem Tl.same (h:Tl sc H l xs)(s:ak H H'):Tl sc H' l xs:=by
 obtain⟨ps,h1,h2,h3⟩:=h
 exact⟨ps,s _ _ h1,h2,fun i p x e1 e2=>s _ _ (h3 i p x e1 e2)⟩
theorem Tl.get (h:Tl sc H l xs){i:Nat}{x:α}(e:xs[i]? = some x):∃ ps:List Addr,∃ p,H l=some (.lst (ps.map V.ref))∧ps.length=xs.length∧(ps.map V.ref)[i]? = some (.ref p)∧H p=some (.tup (sc x)):=by
 obtain⟨ps,h1,h2,h3⟩:=h
 have hi:i<ps.length:=by rw[h2];exact am e
 refine⟨ps,ps[i],h1,h2,?_,h3 i ps[i] x (getElem?_eq_getElem hi) e⟩
 rw[getElem?_map,getElem?_eq_getElem hi]
 rfl
theorem Tl.atI (h:Tl sc H l xs){i:Int}(h0:0≤i)(h1:i<xs.length):∃ ps:List Addr,∃ p x,H l=some (.lst (ps.map V.ref))∧ps.length=xs.length∧L2.atI (ps.map V.ref) i=some (.ref p)∧xs[i.toNat]? = some x∧H p=some (.tup (sc x)):=by
 have hj:i.toNat<xs.length:=by lia
 obtain⟨ps,p,e1,e2,e3,e4⟩:=h.get (getElem?_eq_getElem hj)
 refine⟨ps,p,xs[i.toNat],e1,e2,?_,getElem?_eq_getElem hj,e4⟩
 have:=kD (j:=i.toNat) e3
 rwa [show ((i.toNat:Nat):Int)=i by lia] at this
theorem Tl.len (h:Tl sc H l xs):∃ vs,H l=some (.lst vs)∧vs.length=xs.length:=by
 obtain⟨ps,h1,h2,_⟩:=h
 exact⟨_,h1,by simpa using h2⟩
theorem Tl.nil (h:H l=some (.lst [])):Tl sc H l ([]:List α):=⟨[],h,rfl,fun i p x e=>by simp at e⟩
theorem Tl.snoc (h:Tl sc H l xs){p:Addr}{x:α}(hp:H p=some (.tup (sc x))):∃ vs,H l=some (.lst vs)∧vs.length=xs.length∧∀ H',Chg H l (.lst (vs++[.ref p])) H'→Tl sc H' l (xs++[x]):=by
 obtain⟨ps,h1,h2,h3⟩:=h
 refine⟨ps.map V.ref,h1,by simpa using h2,fun H' c=>⟨ps++[p],by rw[c.is];simp,by simp[h2],fun i q y e1 e2=>?_⟩⟩
 have ne:∀ {a:Addr} {zs},H a=some (.tup zs)→a≠l:=fun e=>bz e h1 (by intro z;cases z)
 by_cases hi:i<ps.length
 ·rw[getElem?_append_left hi] at e1
  rw[getElem?_append_left (by lia)] at e2
  have:=h3 i q y e1 e2
  rw[c.oth q (ne this)]
  exact this
 ·have e:i=ps.length:=by
   have:=am e1
   simp at this
   lia
  subst e
  simp at e1
  rw[h2] at e2
  simp at e2
  subst e1 e2
  rw[c.oth p (ne hp)]
  exact hp
theorem Tl.cat {l2:Addr}(h:Tl sc H l xs)(h':Tl sc H l2 ys){p:Addr}(s:ak H H')(e:∀ vs ws,H l=some (.lst vs)→H l2=some (.lst ws)→H' p=some (.lst (vs++ws))):Tl sc H' p (xs++ys):=by
 obtain⟨ps,h1,h2,h3⟩:=h
 obtain⟨qs,g1,g2,g3⟩:=h'
 refine⟨ps++qs,by rw[e _ _ h1 g1,map_append],by simp[h2,g2],fun i q x e1 e2=>?_⟩
 by_cases hi:i<ps.length
 ·rw[getElem?_append_left hi] at e1
  rw[getElem?_append_left (by lia)] at e2
  exact s _ _ (h3 i q x e1 e2)
 ·rw[getElem?_append_right (by lia)] at e1 e2
  rw[←h2] at e2
  exact s _ _ (g3 _ q x e1 e2)
theorem Tl.copy (h:Tl sc H l xs){p:Addr}(s:ak H H')(e:∀ vs,H l=some (.lst vs)→H' p=some (.lst vs)):Tl sc H' p xs:=by
 obtain⟨ps,h1,h2,h3⟩:=h
 exact⟨ps,e _ h1,h2,fun i q x e1 e2=>s _ _ (h3 i q x e1 e2)⟩
theorem Tl.eqT {l2:Addr}(h:Tl sc H l xs)(h':Tl sc H l2 xs)(hf:∀ x,∀ v∈sc x,jB v=true){n:Nat}:EqR H (n+1) (.ref l) (.ref l2):=by
 obtain⟨ps,h1,h2,h3⟩:=h
 obtain⟨qs,g1,g2,g3⟩:=h'
 refine⟨l,l2,_,_,rfl,rfl,by simp[h2,g2],.inr ⟨.inl h1,.inl g1⟩,fun i x y e1 e2=>?_⟩
 rw[getElem?_map] at e1 e2
 cases c1:ps[i]? with
 | none=>rw[c1] at e1;cases e1
 | some p =>
   cases c2:qs[i]? with
   | none=>rw[c2] at e2;cases e2
   | some q =>
     rw[c1] at e1
     rw[c2] at e2
     simp only[Option.map_some,Option.some.injEq] at e1 e2
     subst e1 e2
     have hi:i<xs.length:=by rw[←h2];exact am c1
     have z1:=h3 i p xs[i] c1 (getElem?_eq_getElem hi)
     have z2:=g3 i q xs[i] c2 (getElem?_eq_getElem hi)
     refine .inr ⟨p,q,_,_,rfl,rfl,rfl,.inl ⟨.inl z1,.inl z2⟩,fun j x y e3 e4=>?_⟩
     rw[e3] at e4
     have e5:=Option.some.inj e4
     subst e5
     exact EqT.flat (hf _ x (mem_of_getElem? e3))
theorem flT (t:Int×Int):∀ v∈scT t,jB v=true:=by intro v hv;simp at hv;rcases hv with rfl | rfl <;> rfl
end
theorem EqR.list {H:Hp}{a b:Addr}{xs ys:List V}{n:Nat}(ha:H a=some (.lst xs))(hb:H b=some (.lst ys))(hl:xs.length=ys.length)(h:∀ (i:Nat) x y,xs[i]? = some x→ys[i]? = some y→EqT H n x y):EqR H n (.ref a) (.ref b) :=
 ⟨a,b,xs,ys,rfl,rfl,hl,.inr ⟨.inl ha,.inl hb⟩,h⟩
theorem EqR.ints {H:Hp}{a b:Addr}{ns:List Int}{n:Nat}(ha:H a=some (.lst (ns.map V.int)))(hb:H b=some (.lst (ns.map V.int))):EqR H n (.ref a) (.ref b) :=
 EqR.list ha hb rfl fun i x y e1 e2=>by
  rw[e1] at e2
  have:=Option.some.inj e2
  subst this
  obtain⟨z,_,rfl⟩:=cA e1
  exact EqT.flat rfl
end L2
namespace L2
open PySem PySem.Spec PyProof.Rows
section
variable {X:Cx}{st:Stmt}{rest:List Stmt}{t u:TS}
def uK (t u:TS):TS:=fun D σ H=>∃ J:St→Hp→Prop,t { D with nx:=J } σ H∧∀ σ' H',J σ' H'→u D σ' H'
theorem dC (h1:PS X st t)(h2:PSs X rest u):PSs X (st :: rest) (uK t u):=by
 intro pins s σ H D I h
 obtain⟨J,q1,q2⟩:=h
 refine wpAny_execs_cons (thn (h1 pins s σ H { D with nx:=J } I q1) fun f s1 q=>?_)
 cases f with
 | next =>
   obtain⟨σ',H',I',q⟩:=q
   exact h2 pins s1 σ' H' D I' (q2 σ' H' q)
 | ret v=>exact q
 | brk=>exact q
 | cont=>exact q
end
theorem tM {c A B:Prop}[Decidable c](hc:c)(h:A):if decide c=true then A else B:=by
 rw[decide_eq_true hc];exact h
theorem u6 {c A B:Prop}[Decidable c](hc:¬ c)(h:B):if decide c=true then A else B:=by
 rw[decide_eq_false hc];exact h
theorem gT {p q:Prop}[Decidable p][Decidable q](h:p↔q):decide p=decide q:=by
 by_cases c:p
 ·rw[decide_eq_true c,decide_eq_true (h.mp c)]
 ·rw[decide_eq_false c,decide_eq_false (fun z=>c (h.mpr z))]
theorem New.free {H0 H H2:Hp}{l:Addr}{o:HO}(n:New H l o H2)(s:ak H0 H):H0 l=none:=s.free n.was
end L2
namespace L2
open PySem PySem.Spec PyProof.Rows
theorem nZ {xs:List V}{m:Int}(h:0≤m):iJ xs none (some m)=xs.take m.toNat:=by
 obtain⟨k,rfl⟩:=Int.eq_ofNat_of_zero_le h
 unfold iJ
 have e1:HT.sIx xs.length xs.length (some (k:Int))=min k xs.length:=HT.sIx_nat _ _ _
 have e2:HT.sIx xs.length 0 none=0:=rfl
 rw[e1,e2,List.drop_zero,Nat.sub_zero,Int.toNat_natCast]
 by_cases c:k≤xs.length
 ·rw[Nat.min_eq_left c]
 ·rw[Nat.min_eq_right (by lia),take_of_length_le (Nat.le_refl _),take_of_length_le (by lia)]
theorem r9 {xs:List V}{m:Int}(h:0≤m):iJ xs (some m) none=xs.drop m.toNat:=by
 obtain⟨k,rfl⟩:=Int.eq_ofNat_of_zero_le h
 unfold iJ
 have e1:HT.sIx xs.length 0 (some (k:Int))=min k xs.length:=HT.sIx_nat _ _ _
 have e2:HT.sIx xs.length xs.length none=xs.length:=rfl
 rw[e1,e2,Int.toNat_natCast]
 by_cases c:k≤xs.length
 ·rw[Nat.min_eq_left c,take_of_length_le (by simp)]
 ·rw[Nat.min_eq_right (by lia),List.drop_of_length_le (Nat.le_refl _),List.drop_of_length_le (show xs.length≤k by lia)]
  simp
theorem fN (zs:List Int)(n:Nat):(zs.map V.int).take n=(zs.take n).map V.int:=by rw[List.map_take]
theorem ki (zs:List Int)(n:Nat):(zs.map V.int).drop n=(zs.drop n).map V.int:=by rw[List.map_drop]
section
variable {α:Type}{sc:α→List V}{H H' H2:Hp}{l:Addr}{xs ys:List α}
theorem Tl.catN {vs ws:List V}{l2 p:Addr}(h:Tl sc H l xs)(h':Tl sc H l2 ys)(e1:H l=some (.lst vs))(e2:H l2=some (.lst ws))(n:New H p (.lst (vs++ws)) H2):Tl sc H2 p (xs++ys) :=
 h.cat h' n.same fun vs' ws' e3 e4=>by rw[e1] at e3;rw[e2] at e4;cases e3;cases e4;exact n.is
theorem oh {α:Type}{xs:List α}{v:α}(h:xs[xs.length-1]? = some v):L2.atI xs (-1)=some v:=by
 have hl:=am h
 unfold L2.atI ixN
 rw[if_neg (by decide),if_pos (by lia)]
 show xs[(-1+(xs.length:Int)).toNat]? = some v
 rw[show (-1+(xs.length:Int)).toNat=xs.length-1 by lia]
 exact h
theorem Tl.last (h:Tl sc H l xs){x:α}(e:xs[xs.length-1]? = some x):∃ vs p,H l=some (.lst vs)∧L2.atI vs (-1)=some (.ref p)∧H p=some (.tup (sc x)):=by
 obtain⟨ps,p,e1,e2,e3,e4⟩:=h.get e
 refine⟨_,p,e1,oh ?_,e4⟩
 rw[length_map,e2]
 exact e3
def Tg {α:Type}(sc:α→List V)(H:Hp)(ys:List V)(xs:List α):Prop:=∃ ps:List Addr,ys=ps.map V.ref∧ps.length=xs.length∧∀ (i:Nat) p x,ps[i]? = some p→xs[i]? = some x→H p=some (.tup (sc x))
theorem Tg.nil:Tg sc H [] ([]:List α):=⟨[],rfl,rfl,fun i p x e=>by simp at e⟩
theorem Tg.len {vs:List V}(h:Tg sc H vs xs):vs.length=xs.length:=by
 obtain⟨ps,h1,h2,_⟩:=h
 rw[h1,length_map,h2]
theorem Tg.snoc {vs:List V}(h:Tg sc H vs xs)(s:ak H H'){p:Addr}{x:α}(e:H' p=some (.tup (sc x))):Tg sc H' (vs++[.ref p]) (xs++[x]):=by
 obtain⟨ps,h1,h2,h3⟩:=h
 refine⟨ps++[p],by rw[h1];simp,by simp[h2],fun i q y e1 e2=>?_⟩
 by_cases hi:i<ps.length
 ·rw[getElem?_append_left hi] at e1
  rw[getElem?_append_left (by lia)] at e2
  exact s _ _ (h3 i q y e1 e2)
 ·have e':i=ps.length:=by
   have:=am e1
   simp at this
   lia
  subst e'
  simp at e1
  rw[h2] at e2
  simp at e2
  subst e1 e2
  exact e
theorem Tg.tl {vs:List V}(h:Tg sc H vs xs){D:Addr}(n:New H D (.lst vs) H2):Tl sc H2 D xs:=by
 obtain⟨ps,h1,h2,h3⟩:=h
 exact⟨ps,by rw[n.is,h1],h2,fun i p x e1 e2=>n.same _ _ (h3 i p x e1 e2)⟩
theorem Tl.tg (h:Tl sc H l xs):∃ vs,H l=some (.lst vs)∧Tg sc H vs xs:=by
 obtain⟨ps,h1,h2,h3⟩:=h
 exact⟨_,h1,ps,rfl,h2,h3⟩
theorem Tg.get {vs:List V}(h:Tg sc H vs xs){i:Nat}{v:V}(e:vs[i]? = some v):∃ p x,v=.ref p∧xs[i]? = some x∧H p=some (.tup (sc x)):=by
 obtain⟨ps,h1,h2,h3⟩:=h
 subst h1
 rw[getElem?_map] at e
 cases c:ps[i]? with
 | none=>rw[c] at e;cases e
 | some p =>
   rw[c] at e
   have hi:i<xs.length:=by rw[←h2];exact am c
   exact⟨p,xs[i],(Option.some.inj e).symm,getElem?_eq_getElem hi,h3 i p _ c (getElem?_eq_getElem hi)⟩
end
theorem pP {t u:TT}{σ:St}{H:Hp}{Q:Bool→Hp→Prop}(b1 b2:Bool)(h1:∀ Q':Bool→Hp→Prop,Q' b1 H→t σ H Q')(h2:∀ Q':Bool→Hp→Prop,Q' b2 H→u σ H Q')(q:Q (b1 || b2) H):tOr t u σ H Q:=by
 refine h1 _ ?_
 cases b1 with
 | true=>exact q
 | false=>exact h2 _ q
end L2
namespace L2
open PySem PySem.Spec PyProof.Rows
structure Kit (K:PySem.W.Frag):Prop where
 ii:PySem.W.kitOne K (.type "int") (.type "int")=some true
 ib:PySem.W.kitOne K (.type "int") (.type "bool")=some false
 bb:PySem.W.kitOne K (.type "bool") (.type "bool")=some true
 ll:PySem.W.kitOne K (.type "list") (.type "list")=some true
 tt:PySem.W.kitOne K (.type "tuple") (.type "tuple")=some true
 ss:PySem.W.kitOne K (.type "str") (.type "str")=some true
def pY (K:PySem.W.Frag):Sp:=fun vs H Q _=>∃ (a:Addr) (ns:List Int) (k:Int),vs=[.ref a,.int k]∧SqL K H a (ns.map V.int)∧0≤k∧Q (.int (ns.getD k.toNat 0)) H
def ny:Sp:=fun vs H Q _=>∃ i:Int,vs=[.int i]∧Q (.bl true) H
def nF:Sp:=fun vs H Q _=>∃ c f:Int,vs=[.int c,.int f] ∧
 ∀ (l:Addr) (zs:List Int) (H':Hp),1≤zs.length→zs.length≤40→H l=none→ak H H'→H' l=some (.lst (zs.map V.int))→Q (.ref l) H'
def jm:Sp:=fun vs H Q _=>∃ (l:Addr) (ns:List Int) (b:Bool) (m:Int),vs=[.ref l,.bl b,.int m]∧H l=some (.lst (ns.map V.int))∧0≤m∧ns.length≤63 ∧
 ∀ (l':Addr) (zs:List Int) (H':Hp),zs.length≤m.toNat→zs.length≤126→(∀ z∈zs,0≤z)→H l'=none→ak H H'→H' l'=some (.lst (zs.map V.int))→Q (.ref l') H'
def bu (t:Int×Int×Bool):Int×Int:=if t.2.2=true then (t.2.1,t.1) else (t.1,t.2.1)
def pT:Sp:=fun vs H Q _=>∃ (p:Addr) (t:Int×Int×Bool),vs=[.ref p]∧H p=some (.tup (scP t))∧∀ (q:Addr) (H':Hp),New H q (.tup (scT (bu t))) H'→Q (.ref q) H'
def nI (k:Nat):V:=.int k
def nE:Sp:=fun vs H Q _=>∃ (l:Addr) (zs:List Int) (n w:Int),vs=[.ref l,.int n,.int w]∧H l=some (.lst (zs.map V.int))∧0≤n∧n.toNat≤zs.length∧zs.length≤126 ∧
 ∀ (l':Addr) (os:List Nat) (H':Hp),os.Perm (List.range n.toNat)→H l'=none→ak H H'→H' l'=some (.lst (os.map nI))→Q (.ref l') H'
def nA:Sp:=fun vs H Q _=>∃ (p o:Addr) (ps:List (Int×Int×Bool)) (os:List Nat),vs=[.ref p,.ref o]∧Prt H p ps∧H o=some (.lst (os.map nI))∧(∀ k∈os,k<ps.length)∧os.length≤126 ∧
 ∀ (l':Addr) (H':Hp),H l'=none→ak H H'→Til H' l' (os.map fun k=>bu (ps.getD k (0,0,false)))→Q (.ref l') H'
def dN (t:Int×Int)(b:Bool):Int×Int:=if b=true then (t.2,t.1) else (t.1,t.2)
def ah (ts:List (Int×Int))(st:Int×Bool):Int×Int:=dN (ts.getD st.1.toNat (0,0)) st.2
def inT (ts:List (Int×Int))(n:Int):Prop:=0≤n∧n<ts.length
instance (ts:List (Int×Int))(n:Int):Decidable (inT ts n):=by unfold inT;exact inferInstance
def sB:Str:="none"
def p6:Str:="twice"
def p7:Str:="apart"
def fg (ts:List (Int×Int))(row:List (Int×Bool))(i:Nat):Option Str:=match row[i]? with
 | none=>none
 | some st=>if ¬ inT ts st.1 then some sB else if st.1∈(row.take i).map (·.1) then some p6
   else if 0<i∧(ah ts st).1≠(ah ts (row.getD (i-1) (0,false))).2 then some p7 else none
def dH (ts:List (Int×Int))(row:List (Int×Bool)):Prop:=∀ j,j<row.length→fg ts row j=none
theorem qU {ts:List (Int×Int)}{row:List (Int×Bool)}{i:Nat}{st:Int×Bool}(e:row[i]? = some st)(h:¬ inT ts st.1):fg ts row i=some sB:=by
 unfold fg;rw[e];dsimp only;rw[if_pos h]
theorem pH {ts:List (Int×Int)}{row:List (Int×Bool)}{i:Nat}{st:Int×Bool}(e:row[i]? = some st)(h:inT ts st.1)(m:st.1∈(row.take i).map (·.1)):fg ts row i=some p6:=by
 unfold fg;rw[e];dsimp only;rw[if_neg (by simpa using h),if_pos m]
theorem pI {ts:List (Int×Int)}{row:List (Int×Bool)}{i:Nat}{st:Int×Bool}(e:row[i]? = some st)(h:inT ts st.1)(m:st.1∉(row.take i).map (·.1))(c:0<i∧(ah ts st).1≠(ah ts (row.getD (i-1) (0,false))).2):fg ts row i=some p7:=by
 unfold fg;rw[e];dsimp only;rw[if_neg (by simpa using h),if_neg m,if_pos c]
theorem tW {ts:List (Int×Int)}{row:List (Int×Bool)}{i:Nat}{st:Int×Bool}(e:row[i]? = some st)(h:inT ts st.1)(m:st.1∉(row.take i).map (·.1))(c:¬ (0<i∧(ah ts st).1≠(ah ts (row.getD (i-1) (0,false))).2)):fg ts row i=none:=by
 unfold fg;rw[e];dsimp only;rw[if_neg (by simpa using h),if_neg m,if_neg c]
theorem qV {ts:List (Int×Int)}{row:List (Int×Bool)}{i:Nat}{st:Int×Bool}(e:row[i]? = some st)(h:fg ts row i=none):inT ts st.1:=by
 by_cases c:inT ts st.1
 ·exact c
 ·rw[qU e c] at h;cases h
def sA:Sp:=fun vs H Q _=>∃ (l:Addr) (ts:List (Int×Int)) (n:Int),vs=[.ref l,.int n]∧Til H l ts∧Q (.bl (decide (inT ts n))) H
def jT:Sp:=fun vs H Q _=>∃ (l p:Addr) (ts:List (Int×Int)) (st:Int×Bool),vs=[.ref l,.ref p]∧Til H l ts∧H p=some (.tup (scS st))∧inT ts st.1∧∀ (q:Addr) (H':Hp),New H q (.tup (scT (ah ts st))) H'→Q (.ref q) H'
def spLaw (K:PySem.W.Frag):Sp:=fun vs H Q _=>∃ (a:Addr) (ns:List Int),vs=[.ref a]∧SqL K H a (ns.map V.int)∧ns.length≤63∧∀ H',Q (.bl true) H'
end L2
namespace L2
open PySem PySem.Spec PyProof.Rows
def flat (ts:List (Int×Int)):List Int:=ts.flatMap fun t=>[t.1,t.2]
def aI (ts:List (Int×Int))(m:Int):Int:=((flat ts).count m:Nat)
def aR (ts:List (Int×Int))(ms:List Int):Prop:=ms.Pairwise (· < ·)∧∀ x,x∈ms↔x∈flat ts
theorem b7:∀ {a b:List Int},a.Pairwise (· < ·)→b.Pairwise (· < ·)→(∀ x,x∈a↔x∈b)→a=b
 | [],[],_,_,_=>rfl
 | [],y :: b,_,_,h=>absurd ((h y).mpr mem_cons_self) (by simp)
 | x :: a,[],_,_,h=>absurd ((h x).mp mem_cons_self) (by simp)
 | x :: a,y :: b,ha,hb,h=>by
   rw[pairwise_cons] at ha hb
   have e:x=y:=by
    rcases mem_cons.mp ((h x).mp mem_cons_self) with z | z
    ·exact z
    ·rcases mem_cons.mp ((h y).mpr mem_cons_self) with z' | z'
     ·exact z'.symm
     ·have:=hb.1 x z;have:=ha.1 y z';lia
   subst e
   rw[b7 ha.2 hb.2 fun z=>?_]
   constructor
   ·intro hz
    rcases mem_cons.mp ((h z).mp (mem_cons_of_mem _ hz)) with q | q
    ·have:=ha.1 z hz;lia
    ·exact q
   ·intro hz
    rcases mem_cons.mp ((h z).mpr (mem_cons_of_mem _ hz)) with q | q
    ·have:=hb.1 z hz;lia
    ·exact q
theorem aR.uniq {ts:List (Int×Int)}{a b:List Int}(ha:aR ts a)(hb:aR ts b):a=b:=b7 ha.1 hb.1 fun x=>(ha.2 x).trans (hb.2 x).symm
theorem cF {ms:List Int}(h:ms.Pairwise (·≤·))(n:ms.Nodup):ms.Pairwise (· < ·):=by
 have h2:ms.Pairwise (·≠·):=n
 exact (List.pairwise_and_iff.mpr ⟨h,h2⟩).imp fun {a b} ⟨x,y⟩=>by lia
theorem fS (ts:List (Int×Int))(x:Int):x∈flat ts↔x∈ts.map (·.1)++ts.map (·.2):=by
 unfold flat
 rw[mem_flatMap,mem_append,mem_map,mem_map]
 constructor
 ·rintro⟨t,ht,hx⟩
  simp at hx
  rcases hx with rfl | rfl
  ·exact .inl ⟨t,ht,rfl⟩
  ·exact .inr ⟨t,ht,rfl⟩
 ·rintro (⟨t,ht,rfl⟩ | ⟨t,ht,rfl⟩)
  ·exact⟨t,ht,by simp⟩
  ·exact⟨t,ht,by simp⟩
theorem jy {ts:List (Int×Int)}{i:Nat}{t:Int×Int}(e:ts[i]? = some t):flat (ts.take (i+1))=flat (ts.take i)++[t.1]++[t.2]:=by
 unfold flat
 rw[take_add_one,e,flatMap_append]
 simp
theorem bg (ts:List (Int×Int)):(flat ts).length=2*ts.length:=by
 unfold flat
 induction ts with
 | nil=>rfl
 | cons t r ih=>rw[flatMap_cons,length_append,ih];simp;lia
theorem aD:∀ {a b:List Int},a.Nodup→(∀ x∈a,x∈b)→a.length≤b.length
 | [],b,_,_=>Nat.zero_le _
 | x :: a,b,hn,h=>by
   rw[nodup_cons] at hn
   have hx:=h x mem_cons_self
   have ih:=aD (b:=b.erase x) hn.2 fun y hy=>(List.mem_erase_of_ne (fun z:y=x=>hn.1 (z▸hy))).mpr (h y (mem_cons_of_mem _ hy))
   have:=List.length_erase_of_mem hx
   have:=length_pos_of_mem hx
   rw[length_cons]
   lia
def CI (es:List (Int×Int))(fs:List Int):Prop:=(es.map (·.1)).Nodup∧(∀ m,m∈es.map (·.1)↔m∈fs)∧∀ e∈es,e.2=((fs.count e.1:Nat):Int)
def kvE (es:List (Int×Int)):List (Key×V):=es.map fun e=>(Sum.inl e.1,V.int e.2)
theorem cK (m:Int):∀ es:List (Int×Int),bo (kvE es) (Sum.inl m)=(es.find? fun e=>decide (e.1=m)).map fun e=>V.int e.2
 | []=>rfl
 | e :: es=>by
   have ih:=cK m es
   by_cases h:e.1=m
   ·rw[find?_cons,decide_eq_true h]
    exact dS (p:=(Sum.inl e.1,V.int e.2)) (by rw[h])
   ·rw[find?_cons,decide_eq_false h]
    rw[←ih]
    exact dU (p:=(Sum.inl e.1,V.int e.2)) (fun z=>h (by injection z))
theorem CI.get {es:List (Int×Int)}{fs:List Int}(h:CI es fs)(m:Int):(bo (kvE es) (Sum.inl m)).getD (V.int 0)=V.int ((fs.count m:Nat):Int):=by
 rw[cK]
 cases e:es.find? fun e=>decide (e.1=m) with
 | none =>
   have hm:m∉fs:=fun hm=>by
    obtain⟨x,hx,ex⟩:=mem_map.mp ((h.2.1 m).mpr hm)
    have:=find?_eq_none.mp e x hx
    exact this (decide_eq_true ex)
   rw[count_eq_zero_of_not_mem hm]
   rfl
 | some x =>
   have h1:=find?_some e
   have h2:=mem_of_find?_eq_some e
   have e1:x.1=m:=of_decide_eq_true h1
   rw[←e1,←h.2.2 x h2]
   rfl
theorem CI.put {es:List (Int×Int)}{fs:List Int}(h:CI es fs)(m:Int):∃ es',cz (kvE es) (Sum.inl m) (V.int (((fs.count m:Nat):Int)+1))=kvE es'∧CI es' (fs++[m]):=by
 have cnt:∀ x,((fs++[m]).count x:Nat)=fs.count x+if x=m then 1 else 0:=fun x=>by
  rw[count_append]
  by_cases z:x=m
  ·subst z;simp
  ·rw[if_neg z,count_eq_zero_of_not_mem (l:=[m]) (a:=x) (by simpa using z)]
 by_cases hm:m∈fs
 ·have ha:((kvE es).any fun kv=>decide (kv.1=Sum.inl m))=true:=by
   obtain⟨x,hx,ex⟩:=mem_map.mp ((h.2.1 m).mpr hm)
   rw[any_eq_true]
   exact⟨_,mem_map.mpr ⟨x,hx,rfl⟩,decide_eq_true (by rw[ex])⟩
  have hk:(es.map fun e=>if e.1=m then (e.1,((fs.count m:Nat):Int)+1) else e).map (·.1)=es.map (·.1):=by
   rw[map_map]
   apply map_congr_left
   intro e _
   show (if e.1=m then (e.1,((fs.count m:Nat):Int)+1) else e).1=e.1
   split <;> rfl
  refine⟨es.map fun e=>if e.1=m then (e.1,((fs.count m:Nat):Int)+1) else e,?_,?_,?_,?_⟩
  ·unfold cz
   rw[if_pos ha]
   unfold kvE
   rw[map_map,map_map]
   apply map_congr_left
   intro e _
   show (if (Sum.inl e.1:Key)=Sum.inl m then _ else _)=_
   by_cases z:e.1=m
   ·rw[if_pos (by rw[z])]
    show _=((Sum.inl (if e.1=m then (e.1,((fs.count m:Nat):Int)+1) else e).1:Key),V.int (if e.1=m then (e.1,((fs.count m:Nat):Int)+1) else e).2)
    rw[if_pos z]
   ·rw[if_neg (fun q=>z (by injection q))]
    show _=((Sum.inl (if e.1=m then (e.1,((fs.count m:Nat):Int)+1) else e).1:Key),V.int (if e.1=m then (e.1,((fs.count m:Nat):Int)+1) else e).2)
    rw[if_neg z]
  ·rw[hk];exact h.1
  ·intro x
   rw[hk,h.2.1 x,mem_append,mem_singleton]
   exact⟨.inl,fun q=>q.elim id fun z=>z▸hm⟩
  ·intro e he
   obtain⟨x,hx,rfl⟩:=mem_map.mp he
   by_cases z:x.1=m
   ·rw[if_pos z]
    show ((fs.count m:Nat):Int)+1=_
    rw[cnt,if_pos z,z];lia
   ·rw[if_neg z,cnt,if_neg z]
    exact h.2.2 x hx
 ·have hnk:m∉es.map (·.1):=fun z=>hm ((h.2.1 m).mp z)
  have hv:bo (kvE es) (Sum.inl m)=none:=by
   rw[cK,Option.map_eq_none_iff,find?_eq_none]
   intro x hx z
   exact hnk (mem_map.mpr ⟨x,hx,of_decide_eq_true z⟩)
  refine⟨es++[(m,((fs.count m:Nat):Int)+1)],by rw[fK _ hv];unfold kvE;rw[map_append];rfl,?_,?_,?_⟩
  ·rw[map_append,nodup_append]
   refine⟨h.1,by simp,fun x hx y hy=>?_⟩
   have:y=m:=by simpa using hy
   rw[this]
   exact fun z=>hnk (z▸hx)
  ·intro x
   rw[map_append,mem_append,mem_append,h.2.1 x]
   rfl
  ·intro e he
   rcases mem_append.mp he with he | he
   ·have ne:e.1≠m:=fun z=>hnk (z▸mem_map.mpr ⟨e,he,rfl⟩)
    rw[cnt,if_neg ne]
    exact h.2.2 e he
   ·have:e=(m,((fs.count m:Nat):Int)+1):=by simpa using he
    subst this
    rw[cnt,if_pos rfl]
    show ((fs.count m:Nat):Int)+1=((fs.count m+1:Nat):Int)
    lia
theorem CI.len {es:List (Int×Int)}{fs:List Int}(h:CI es fs):es.length≤fs.length:=by
 have:=aD (b:=fs) h.1 fun x hx=>(h.2.1 x).mp hx
 rwa [length_map] at this
theorem CI.sorted {es fs:List (Int×Int)}{xs:List Int}(h:CI es xs)(p:fs.Perm es)(w:fs.Pairwise (fun e f=>TS.lexP f e=false)) :
 (fs.map (·.1)).Pairwise (· < ·)∧(∀ x,x∈fs.map (·.1)↔x∈xs)∧fs=(fs.map (·.1)).map fun m=>(m,((xs.count m:Nat):Int)):=by
 have hp:=p.map (·.1)
 refine⟨?_,fun x=>hp.mem_iff.trans (h.2.1 x),?_⟩
 ·refine cF ?_ (hp.nodup_iff.mpr h.1)
  rw[pairwise_map]
  refine w.imp fun {a b} q=>?_
  unfold TS.lexP at q
  split at q
  ·lia
  ·have:=of_decide_eq_false q
   lia
 ·rw[map_map]
  conv=>lhs;rw[←map_id fs]
  apply map_congr_left
  intro e he
  show e=(e.1,((xs.count e.1:Nat):Int))
  rw[←h.2.2 e (p.mem_iff.mp he)]
theorem aw {n:Nat}(h:n<10000):n<sizeLine:=by rw[sizeLine_eq];lia
theorem dq {a:Addr}{xs:List V}{ix:List (Option Nat)}{g:TG}{tc:TT}{te:TE}{σ0:St}{H:Hp}{Q:VK}(Pv:Nat→St→Hp→List V→Prop)(h0:Pv 0 (eY σ0 ix) H [])(hl:∀ i σ H ys,i≤xs.length→Pv i σ H ys→Rd H a (.lst xs)∧ys.length≤i)(hz:xs.length≤sizeLine)
 (hs:∀ i x σ H ys (N:St→Hp→List V→Prop),(∀ σ H ys,Pv (i+1) σ H ys→N σ H ys)→xs[i]? = some x→Pv i σ H ys→g x σ H fun σ2 H2=>tc σ2 H2 fun b H3=>if b=true then te σ2 H3 fun v H4=>N σ2 H4 (ys++[v]) else N σ2 H3 ys)
 (hd:∀ σ H ys,Pv xs.length σ H ys→∀ D H2,New H D (.lst ys) H2→Q (.ref D) H2):rg ix (ItQ a) g tc te σ0 H Q:=kj Pv h0 hl hz hs hd
theorem bx {n:Nat}(h:n≤10000):n≤sizeLine:=by rw[sizeLine_eq];lia
def nG:Sp:=fun vs H Q _=>∃ (l:Addr) (ts:List (Int×Int)),vs=[.ref l]∧Til H l ts∧ts.length≤1000 ∧
 ∀ (l':Addr) (ms:List Int) (H':Hp),aR ts ms→H l'=none→ak H H'→H' l'=some (.lst (ms.map V.int))→Q (.ref l') H'
def kZ:Sp:=fun vs H Q _=>∃ (l:Addr) (ts:List (Int×Int)),vs=[.ref l]∧Til H l ts∧ts.length≤1000 ∧
 ∀ (l':Addr) (ms:List Int) (H':Hp),aR ts ms→H l'=none→ak H H'→Til H' l' (ms.map fun m=>(m,aI ts m))→Q (.ref l') H'
def bE (ts:List (Int×Int))(ms:List Int):List Int:=ms.filter fun m=>decide (aI ts m % 2=1)
def sr:Sp:=fun vs H Q _=>∃ (l:Addr) (ts:List (Int×Int)),vs=[.ref l]∧Til H l ts∧ts.length≤1000 ∧
 ∀ (l':Addr) (ms:List Int) (H':Hp),aR ts ms→H l'=none→ak H H'→H' l'=some (.lst ((bE ts ms).map V.int))→Q (.ref l') H'
theorem aR.len {ts:List (Int×Int)}{ms:List Int}(h:aR ts ms):ms.length≤2*ts.length:=by
 have hn:ms.Nodup:=h.1.imp fun z=>Int.ne_of_lt z
 have:=aD (b:=flat ts) hn fun x hx=>(h.2 x).mp hx
 rwa [bg] at this
theorem de {α:Type}{xs:List α}{i:Nat}{x:α}{p:α→Bool}(e:xs[i]? = some x):(xs.take (i+1)).filter p=(xs.take i).filter p++if p x=true then [x] else []:=by
 rw[take_add_one,e,filter_append]
 congr 1
 simp only[Option.toList_some,filter_cons,List.filter_nil]
end L2
namespace L2
open PySem PySem.Spec PyProof.Rows
def mo (ts:List (Int×Int))(S:Int→Prop):Prop:=∀ t∈ts,(S t.1↔S t.2)
def aq (ts:List (Int×Int))(s x:Int):Prop:=∀ S:Int→Prop,S s→mo ts S→S x
section
variable {ts:List (Int×Int)}{a b c s x:Int}{ms ks:List Int}
theorem aq.refl:aq ts s s:=fun S h _=>h
theorem aq.trans (h:aq ts a b)(h':aq ts b c):aq ts a c:=fun S hs hc=>h' S (h S hs hc) hc
theorem aq.symm (h:aq ts a b):aq ts b a :=
 h (fun y=>aq ts y a) aq.refl fun t ht=>⟨fun r S hs hc=>r S ((hc t ht).mpr hs) hc,fun r S hs hc=>r S ((hc t ht).mp hs) hc⟩
theorem aq.tile {t:Int×Int}(ht:t∈ts):aq ts t.1 t.2:=fun S hs hc=>(hc t ht).mp hs
theorem iD {t:Int×Int}(ht:t∈ts):t.1∈flat ts:=(fS ts _).mpr (mem_append_left _ (mem_map.mpr ⟨t,ht,rfl⟩))
theorem lY {t:Int×Int}(ht:t∈ts):t.2∈flat ts:=(fS ts _).mpr (mem_append_right _ (mem_map.mpr ⟨t,ht,rfl⟩))
theorem aq.among (h:aq ts s x):x∈s :: flat ts :=
 h (fun y=>y∈s :: flat ts) mem_cons_self fun t ht=>⟨fun _=>mem_cons_of_mem _ (lY ht),fun _=>mem_cons_of_mem _ (iD ht)⟩
theorem aq.marks (h:aq ts s x)(hs:s∈flat ts):x∈flat ts:=h (fun y=>y∈flat ts) hs fun t ht=>⟨fun _=>lY ht,fun _=>iD ht⟩
def bw (ts:List (Int×Int))(s:Int)(ms:List Int):Prop:=ms.Pairwise (· < ·)∧∀ x,x∈ms↔aq ts s x
theorem bw.uniq {ms':List Int}(h:bw ts s ms)(h':bw ts s ms'):ms=ms':=b7 h.1 h'.1 fun x=>(h.2 x).trans (h'.2 x).symm
theorem bw.nodup (h:bw ts s ms):ms.Nodup:=h.1.imp fun z=>Int.ne_of_lt z
theorem jr (hs:s∈ks)(hr:∀ x∈ks,aq ts s x)(hc:mo ts (·∈ks)):∀ x,x∈ks↔aq ts s x:=fun x=>⟨hr x,fun r=>r _ hs hc⟩
end
def kvT (ks:List Int):List (Key×V):=ks.map fun k=>(Sum.inl k,V.bl true)
def ins (ks:List Int)(k:Int):List Int:=if k∈ks then ks else ks++[k]
theorem lR (ks:List Int):(kvT ks).map (·.1)=ks.map Sum.inl:=by unfold kvT;rw[map_map];rfl
theorem dF (ks:List Int):(kvT ks).length=ks.length:=length_map _
theorem nR (ks:List Int)(k:Int):((kvT ks).any fun kv=>decide (kv.1=Sum.inl k))=decide (k∈ks):=by
 rw[Bool.eq_iff_iff,any_eq_true,decide_eq_true_iff]
 constructor
 ·rintro⟨kv,h1,h2⟩
  obtain⟨x,hx,rfl⟩:=mem_map.mp h1
  have e:(Sum.inl x:Key)=Sum.inl k:=of_decide_eq_true h2
  injection e with e
  exact e▸hx
 ·intro h
  exact⟨_,mem_map.mpr ⟨k,h,rfl⟩,decide_eq_true rfl⟩
theorem fO (ks:List Int)(k:Int):(bo (kvT ks) (Sum.inl k)).isSome=decide (k∈ks):=by rw[←fB,nR]
theorem fP (ks:List Int)(k:Int):cz (kvT ks) (Sum.inl k) (V.bl true)=kvT (ins ks k):=by
 unfold cz
 rw[nR]
 unfold ins
 by_cases h:k∈ks
 ·rw[if_pos (decide_eq_true h),if_pos h]
  conv=>rhs;rw[←map_id (kvT ks)]
  apply map_congr_left
  intro kv hkv
  obtain⟨x,hx,rfl⟩:=mem_map.mp hkv
  show (if (Sum.inl x:Key)=Sum.inl k then _ else _)=_
  split <;> rfl
 ·rw[if_neg (by simpa using h),if_neg h]
  unfold kvT
  rw[map_append]
  rfl
theorem fR (ks:List Int)(k x:Int):x∈ins ks k↔x∈ks∨x=k:=by
 unfold ins
 split
 ·rename_i h
  exact⟨.inl,fun z=>z.elim id fun e=>e▸h⟩
 ·rw[mem_append,mem_singleton]
theorem eW {ks:List Int}(h:ks.Nodup)(k:Int):(ins ks k).Nodup:=by
 unfold ins
 split
 ·exact h
 ·rename_i hk
  rw[nodup_append]
  exact⟨h,by simp,fun x hx y hy z=>hk (by rw[mem_singleton.mp hy] at z;exact z▸hx)⟩
theorem nT (ks:List Int)(k:Int):ks.length≤(ins ks k).length∧(ins ks k).length≤ks.length+1∧((ins ks k).length=ks.length→k∈ks∧ins ks k=ks):=by
 unfold ins
 split
 ·rename_i h
  exact⟨Nat.le_refl _,Nat.le_succ _,fun _=>⟨h,rfl⟩⟩
 ·rw[length_append,length_singleton]
  exact⟨Nat.le_succ _,Nat.le_refl _,fun z=>absurd z (by lia)⟩
theorem kl {ks:List Int}{k:Int}(h:k∉ks):ins ks k=ks++[k]:=if_neg h
def dir (ts:List (Int×Int)):List (Int×Int):=ts.flatMap fun t=>[(t.1,t.2),(t.2,t.1)]
def nb (ps:List (Int×Int))(x:Int):List Int:=(ps.filter fun p=>decide (p.1=x)).map (·.2)
theorem mU {ps:List (Int×Int)}{x y:Int}:y∈nb ps x↔(x,y)∈ps:=by
 unfold nb
 rw[mem_map]
 constructor
 ·rintro⟨p,hp,rfl⟩
  rw[mem_filter] at hp
  have:p.1=x:=of_decide_eq_true hp.2
  rw[←this]
  exact hp.1
 ·intro h
  exact⟨(x,y),mem_filter.mpr ⟨h,decide_eq_true rfl⟩,rfl⟩
theorem tw (ps:List (Int×Int))(x:Int):(nb ps x).length≤ps.length:=by
 unfold nb
 rw[length_map]
 exact length_filter_le _ _
theorem gP (ps:List (Int×Int))(x y z:Int):nb (ps++[(x,y)]) z=nb ps z++if x=z then [y] else []:=by
 unfold nb
 rw[filter_append,map_append]
 congr 1
 by_cases h:x=z
 ·rw[if_pos h,filter_cons,if_pos (decide_eq_true h)];rfl
 ·rw[if_neg h,filter_cons,if_neg (by simpa using h)];rfl
theorem qN {ts:List (Int×Int)}{i:Nat}{t:Int×Int}(e:ts[i]? = some t):dir (ts.take (i+1))=dir (ts.take i)++[(t.1,t.2)]++[(t.2,t.1)]:=by
 unfold dir
 rw[take_add_one,e,flatMap_append]
 simp
theorem rZ (ts:List (Int×Int)):(dir ts).length=2*ts.length:=by
 unfold dir
 induction ts with
 | nil=>rfl
 | cons t r ih=>rw[flatMap_cons,length_append,ih];simp;lia
theorem kw {ts:List (Int×Int)}{x y:Int}:(x,y)∈dir ts↔∃ t∈ts,(x=t.1∧y=t.2)∨(x=t.2∧y=t.1):=by
 unfold dir
 rw[mem_flatMap]
 constructor
 ·rintro⟨t,ht,h⟩
  simp at h
  exact⟨t,ht,h⟩
 ·rintro⟨t,ht,h⟩
  exact⟨t,ht,by simpa using h⟩
theorem l8 (ts:List (Int×Int)):(dir ts).map (·.1)=flat ts:=by
 unfold dir flat
 rw[List.map_flatMap]
 rfl
theorem rj {ts:List (Int×Int)}{ks:List Int}(h:∀ x∈ks,∀ y∈nb (dir ts) x,y∈ks):mo ts (·∈ks):=fun t ht =>
 ⟨fun z=>h _ z _ (mU.mpr (kw.mpr ⟨t,ht,.inl ⟨rfl,rfl⟩⟩)),fun z=>h _ z _ (mU.mpr (kw.mpr ⟨t,ht,.inr ⟨rfl,rfl⟩⟩))⟩
theorem p8 {ts:List (Int×Int)}{s x y:Int}(r:aq ts s x)(h:y∈nb (dir ts) x):aq ts s y:=by
 obtain⟨t,ht,⟨rfl,rfl⟩ | ⟨rfl,rfl⟩⟩:=kw.mp (mU.mp h)
 ·exact r.trans (aq.tile ht)
 ·exact r.trans (aq.tile ht).symm
def kvB (es:List (Int×Addr)):List (Key×V):=es.map fun e=>(Sum.inl e.1,V.ref e.2)
structure Bes (H:Hp)(d:Addr)(ps:List (Int×Int))(es:List (Int×Addr)):Prop where
 at_:H d=some (.dK (kvB es))
 keys:(es.map (·.1)).Nodup
 adrs:(es.map (·.2)).Nodup
 lsts:∀ e∈es,H e.2=some (.lst ((nb ps e.1).map V.int))
 mem:∀ m,m∈es.map (·.1)↔m∈ps.map (·.1)
theorem Bes.same {H H':Hp}{d:Addr}{ps:List (Int×Int)}{es:List (Int×Addr)}(h:Bes H d ps es)(s:ak H H'):Bes H' d ps es:=⟨s _ _ h.at_,h.keys,h.adrs,fun e he=>s _ _ (h.lsts e he),h.mem⟩
theorem dW (m:Int):∀ es:List (Int×Addr),bo (kvB es) (Sum.inl m)=(es.find? fun e=>decide (e.1=m)).map fun e=>V.ref e.2
 | []=>rfl
 | e :: es=>by
   have ih:=dW m es
   by_cases h:e.1=m
   ·rw[find?_cons,decide_eq_true h]
    exact dS (p:=(Sum.inl e.1,V.ref e.2)) (by rw[h])
   ·rw[find?_cons,decide_eq_false h]
    rw[←ih]
    exact dU (p:=(Sum.inl e.1,V.ref e.2)) (fun z=>h (by injection z))
theorem Bes.get {H:Hp}{d:Addr}{ps:List (Int×Int)}{es:List (Int×Addr)}(h:Bes H d ps es){m:Int}(hm:m∈ps.map (·.1)):∃ q,(m,q)∈es∧bo (kvB es) (Sum.inl m)=some (.ref q)∧H q=some (.lst ((nb ps m).map V.int)):=by
 rw[dW]
 cases e:es.find? fun e=>decide (e.1=m) with
 | none =>
   obtain⟨x,hx,ex⟩:=mem_map.mp ((h.mem m).mpr hm)
   exact absurd (decide_eq_true ex) (find?_eq_none.mp e x hx)
 | some x =>
   have h0:=find?_some e
   have h1:x.1=m:=of_decide_eq_true h0
   have h2:=mem_of_find?_eq_some e
   exact⟨x.2,h1▸h2,rfl,h1▸h.lsts x h2⟩
theorem Bes.len {H:Hp}{d:Addr}{ps:List (Int×Int)}{es:List (Int×Addr)}(h:Bes H d ps es):es.length≤ps.length:=by
 have:=aD (b:=ps.map (·.1)) h.keys fun x hx=>(h.mem x).mp hx
 rwa [length_map,length_map] at this
theorem cb {α β:Type}{f:α→β}:∀ {l:List α},(l.map f).Nodup→∀ {x y:α},x∈l→y∈l→f x=f y→x=y
 | [],_,_,_,hx,_,_=>absurd hx (by simp)
 | z :: l,h,x,y,hx,hy,e=>by
   rw[map_cons,nodup_cons] at h
   rcases mem_cons.mp hx with rfl | hx
   ·rcases mem_cons.mp hy with rfl | hy
    ·rfl
    ·exact absurd (mem_map.mpr ⟨y,hy,e.symm⟩) h.1
   ·rcases mem_cons.mp hy with ez | hy
    ·rw[ez] at e
     exact absurd (mem_map.mpr ⟨x,hx,e⟩) h.1
    ·exact cb h.2 hx hy e
theorem og {td ty te:TE}{D:i9}{σ:St}{H0 H:Hp}{d:Addr}{ps:List (Int×Int)}{es:List (Int×Addr)}{x y:Int}(b:Bes H d ps es)(hd0:H0 d=none)(hs:ak H0 H)(hf:∀ e∈es,H0 e.2=none)(hz:ps.length<10000)
 (htd:∀ (H:Hp) (Q:VK),Q (.ref d) H→td σ H Q) (hty:∀ (H:Hp) (Q:VK),Q (.int x) H→ty σ H Q) (hte:∀ (H:Hp) (Q:VK),Q (.int y) H→te σ H Q)
 (nx:∀ H' es',Bes H' d (ps++[(x,y)]) es'→ak H0 H'→(∀ e∈es',H0 e.2=none)→D.nx σ H'):nn (np (jR td ty (pQ mD)) te) D σ H:=by
 have hlen:=b.len
 refine htd _ _ ⟨d,rfl,.inl ⟨_,.inl b.at_⟩,hty _ _ ⟨(by show 0≤sizeLine;decide),fun p H1 n1=>?_⟩⟩
 have s1:=n1.same
 refine⟨_,Sum.inl x,s1 _ _ b.at_,rfl,aw (by unfold kvB;rw[length_map];lia),fun v hv=>?_,fun hn H2 c2=>?_⟩
 ·rw[dW] at hv
  obtain⟨e,he,ev⟩:=Option.map_eq_some_iff.mp hv
  have h0:=find?_some he
  have h1:e.1=x:=of_decide_eq_true h0
  have h2:=mem_of_find?_eq_some he
  subst ev
  have hq:=b.lsts e h2
  refine⟨e.2,_,rfl,s1 _ _ hq,hte _ _ ⟨_,s1 _ _ hq,aw (by rw[length_map];have:=tw ps e.1;lia),fun H3 c3=>?_⟩⟩
  refine nx H3 es ⟨?_,b.keys,b.adrs,fun g hg=>?_,fun m=>?_⟩ (c3.same (hs.trans s1) (hf e h2)) hf
  ·rw[c3.oth d (bz b.at_ hq (by intro z;cases z))]
   exact s1 _ _ b.at_
  ·by_cases hge:g.2=e.2
   ·have:g=e:=cb (f:=(·.2)) b.adrs hg h2 hge
    subst this
    rw[c3.is,gP,if_pos h1.symm,map_append]
    rfl
   ·have hne:¬ x=g.1:=fun z=>hge (by rw[cb (f:=(·.1)) b.keys hg h2 (by rw[←z,h1])])
    rw[c3.oth g.2 hge,gP,if_neg hne,append_nil]
    exact s1 _ _ (b.lsts g hg)
  ·rw[b.mem m,map_append,mem_append]
   refine⟨.inl,fun z=>z.elim id fun z=>?_⟩
   have:m=x:=by simpa using z
   rw[this,←h1]
   exact (b.mem _).mp (mem_map.mpr ⟨e,h2,rfl⟩)
 ·have hx:x∉es.map (·.1):=fun z=>by
   obtain⟨q,hq,ev,_⟩:=b.get ((b.mem x).mp z)
   rw[ev] at hn
   cases hn
  have hpd:p≠d:=fun z=>by have h:=b.at_;rw[←z,n1.was] at h;cases h
  have hp2:H2 p=some (.lst []):=by rw[c2.oth p hpd];exact n1.is
  have hp0:H0 p=none:=hs.free n1.was
  rw[fK _ hn] at c2
  refine⟨p,_,rfl,hp2,hte _ _ ⟨_,hp2,(by show 0<sizeLine;decide),fun H3 c3=>?_⟩⟩
  refine nx H3 (es++[(x,p)]) ⟨?_,?_,?_,fun g hg=>?_,fun m=>?_⟩ (c3.same (c2.same (hs.trans s1) hd0) hp0) fun g hg=>?_
  ·rw[c3.oth d hpd.symm,c2.is]
   unfold kvB
   rw[map_append]
   rfl
  ·rw[map_append,nodup_append]
   refine⟨b.keys,by simp,fun u hu v hv z=>hx ?_⟩
   have:v=x:=by simpa using hv
   rw[←this,←z]
   exact hu
  ·rw[map_append,nodup_append]
   refine⟨b.adrs,by simp,fun u hu v hv z=>?_⟩
   have:v=p:=by simpa using hv
   obtain⟨g,hg,eg⟩:=mem_map.mp hu
   have h1:=b.lsts g hg
   rw[show g.2=p from eg.trans (z.trans this),n1.was] at h1
   cases h1
  ·rcases mem_append.mp hg with hg | hg
   ·have h1:=b.lsts g hg
    have hgp:g.2≠p:=fun z=>by rw[z,n1.was] at h1;cases h1
    have hne:¬ x=g.1:=fun z=>hx (z▸mem_map.mpr ⟨g,hg,rfl⟩)
    rw[c3.oth g.2 hgp,c2.oth g.2 (bz h1 b.at_ (by intro z;cases z)),gP,if_neg hne,append_nil]
    exact s1 _ _ h1
   ·have:g=(x,p):=by simpa using hg
    subst this
    have hnb:nb ps x=[]:=by
     unfold nb
     rw[filter_eq_nil_iff.mpr,map_nil]
     intro q hq z
     exact hx ((b.mem x).mpr (mem_map.mpr ⟨q,hq,of_decide_eq_true z⟩))
    rw[c3.is,gP,if_pos rfl,hnb]
    rfl
  ·rw[map_append,mem_append,map_append,mem_append,b.mem m]
   rfl
  ·rcases mem_append.mp hg with hg | hg
   ·exact hf g hg
   ·have:g=(x,p):=by simpa using hg
    subst this
    exact hp0
def bA (Ps:List (List Int)):List Int:=Ps.filterMap List.head?
structure ax (ts:List (Int×Int))(Ps:List (List Int)):Prop where
 part:∀ P∈Ps,∃ m,P.head? = some m∧bw ts m P
 rise:(bA Ps).Pairwise (· < ·)
 once:Ps.flatten.Nodup
 all:∀ x,x∈Ps.flatten↔x∈flat ts
structure PrI (ts:List (Int×Int))(ms:List Int)(i:Nat)(Ps:List (List Int))(pk:List Int):Prop where
 part:∀ P∈Ps,∃ m,P.head? = some m∧bw ts m P∧m∈ms.take i
 rise:(bA Ps).Pairwise (· < ·)
 once:Ps.flatten.Nodup
 got:∀ x,x∈pk↔x∈Ps.flatten
 seen:∀ x∈ms.take i,x∈pk
theorem pc {ts:List (Int×Int)}{ms:List Int}{i:Nat}{Ps:List (List Int)}{pk:List Int}(h:PrI ts ms i Ps pk){x:Int}(hx:x∈bA Ps):x∈ms.take i:=by
 unfold bA at hx
 obtain⟨P,hP,e⟩:=mem_filterMap.mp hx
 obtain⟨m,e',_,hm⟩:=h.part P hP
 rw[e] at e'
 cases e'
 exact hm
theorem rc {ms:List Int}{i:Nat}{m x:Int}(w:ms.Pairwise (· < ·))(e:ms[i]? = some m)(hx:x∈ms.take i):x<m:=by
 obtain⟨j,hj⟩:=mem_iff_getElem?.mp hx
 rw[getElem?_take] at hj
 split at hj
 ·rename_i hlt
  obtain⟨h1,h2⟩:=List.getElem?_eq_some_iff.mp hj
  obtain⟨h3,h4⟩:=List.getElem?_eq_some_iff.mp e
  rw[←h2,←h4]
  exact (pairwise_iff_getElem.mp w) j i h1 h3 hlt
 ·cases hj
theorem rN {ms:List Int}{i:Nat}{m x:Int}(w:ms.Pairwise (· < ·))(e:ms[i]? = some m)(hx:x∈ms)(hl:x<m):x∈ms.take i:=by
 obtain⟨j,hj⟩:=mem_iff_getElem?.mp hx
 obtain⟨h1,h2⟩:=List.getElem?_eq_some_iff.mp hj
 obtain⟨h3,h4⟩:=List.getElem?_eq_some_iff.mp e
 have hji:j<i:=by
  rcases Nat.lt_trichotomy j i with c | c | c
  ·exact c
  ·subst c;rw[h4] at h2;lia
  ·have:=(pairwise_iff_getElem.mp w) i j h3 h1 c
   rw[h2,h4] at this
   lia
 rw[mem_iff_getElem?]
 exact⟨j,by rw[getElem?_take,if_pos hji];exact hj⟩
theorem PrI.skip {ts:List (Int×Int)}{ms:List Int}{i:Nat}{Ps:List (List Int)}{pk:List Int}{m:Int}(h:PrI ts ms i Ps pk)(e:ms[i]? = some m)(hm:m∈pk):PrI ts ms (i+1) Ps pk:=by
 have ht:ms.take (i+1)=ms.take i++[m]:=by rw[take_add_one,e];rfl
 refine⟨fun P hP=>?_,h.rise,h.once,h.got,fun x hx=>?_⟩
 ·obtain⟨a,h1,h2,h3⟩:=h.part P hP
  exact⟨a,h1,h2,by rw[ht];exact mem_append_left _ h3⟩
 ·rw[ht] at hx
  rcases mem_append.mp hx with hx | hx
  ·exact h.seen x hx
  ·rw[mem_singleton.mp hx];exact hm
theorem PrI.add {ts:List (Int×Int)}{ms:List Int}{i:Nat}{Ps:List (List Int)}{pk pk':List Int}{m:Int}{P:List Int}(h:PrI ts ms i Ps pk)(im:aR ts ms)(e:ms[i]? = some m)(hm:m∉pk)(hP:bw ts m P)(hk:∀ x,x∈pk'↔x∈pk∨x∈P) :
 PrI ts ms (i+1) (Ps++[P]) pk':=by
 have ht:ms.take (i+1)=ms.take i++[m]:=by rw[take_add_one,e];rfl
 have hmf:m∈flat ts:=(im.2 m).mp (mem_of_getElem? e)
 have hmP:m∈P:=(hP.2 m).mpr aq.refl
 have apart:∀ x∈P,x∉pk:=fun x hx hxp=>by
  obtain⟨P',hP',hx'⟩:=mem_flatten.mp ((h.got x).mp hxp)
  obtain⟨a,_,h2,_⟩:=h.part P' hP'
  have r1:=(h2.2 x).mp hx'
  have r2:=(hP.2 x).mp hx
  have:m∈P':=(h2.2 m).mpr (r1.trans r2.symm)
  exact hm ((h.got m).mpr (mem_flatten.mpr ⟨P',hP',this⟩))
 have hhead:P.head? = some m:=by
  cases P with
  | nil=>exact absurd hmP (by simp)
  | cons y r =>
    have hw:=hP.1
    rw[pairwise_cons] at hw
    by_cases c:y=m
    ·rw[c];rfl
    ·have hym:y<m:=by
      rcases mem_cons.mp hmP with z | z
      ·exact absurd z.symm c
      ·exact hw.1 m z
     have hyf:y∈flat ts:=((hP.2 y).mp mem_cons_self).marks hmf
     have:=h.seen y (rN im.1 e ((im.2 y).mpr hyf) hym)
     exact absurd this (apart y mem_cons_self)
 refine⟨fun Q hQ=>?_,?_,?_,fun x=>?_,fun x hx=>?_⟩
 ·rcases mem_append.mp hQ with hQ | hQ
  ·obtain⟨a,h1,h2,h3⟩:=h.part Q hQ
   exact⟨a,h1,h2,by rw[ht];exact mem_append_left _ h3⟩
  ·rw[mem_singleton.mp hQ]
   exact⟨m,hhead,hP,by rw[ht];simp⟩
 ·unfold bA
  rw[List.filterMap_append,pairwise_append]
  refine⟨h.rise,by simp[hhead],fun x hx y hy=>?_⟩
  have:y=m:=by
   rw[filterMap_cons,hhead] at hy
   simpa using hy
  rw[this]
  exact rc im.1 e (pc h hx)
 ·rw[flatten_append,nodup_append]
  refine⟨h.once,by simpa using hP.nodup,fun x hx y hy z=>?_⟩
  have hy':y∈P:=by simpa using hy
  exact apart y hy' ((h.got y).mpr (z▸hx))
 ·rw[hk x,h.got x,flatten_append,mem_append]
  simp
 ·rw[ht] at hx
  rw[hk x]
  rcases mem_append.mp hx with hx | hx
  ·exact .inl (h.seen x hx)
  ·rw[mem_singleton.mp hx];exact .inr hmP
theorem PrI.done {ts:List (Int×Int)}{ms:List Int}{i:Nat}{Ps:List (List Int)}{pk:List Int}(h:PrI ts ms i Ps pk)(im:aR ts ms)(e:ms.length≤i):ax ts Ps:=by
 have ht:ms.take i=ms:=take_of_length_le e
 refine⟨fun P hP=>?_,h.rise,h.once,fun x=>⟨fun hx=>?_,fun hx=>?_⟩⟩
 ·obtain⟨a,h1,h2,_⟩:=h.part P hP
  exact⟨a,h1,h2⟩
 ·obtain⟨P,hP,hx'⟩:=mem_flatten.mp hx
  obtain⟨a,_,h2,h3⟩:=h.part P hP
  rw[ht] at h3
  exact ((h2.2 x).mp hx').marks ((im.2 a).mp h3)
 ·exact (h.got x).mp (h.seen x (by rw[ht];exact (im.2 x).mpr hx))
theorem ax.len {ts:List (Int×Int)}{Ps:List (List Int)}(h:ax ts Ps):Ps.flatten.length≤2*ts.length:=by
 have:=aD (b:=flat ts) h.once fun x hx=>(h.all x).mp hx
 rwa [bg] at this
theorem eJ:∀ {Ps:List (List Int)},(∀ P∈Ps,∃ m:Int,P.head? = some m)→Ps.length≤Ps.flatten.length
 | [],_=>Nat.zero_le _
 | P :: Ps,h=>by
   have ih:=eJ fun Q hQ=>h Q (mem_cons_of_mem _ hQ)
   obtain⟨m,hm⟩:=h P mem_cons_self
   rw[flatten_cons,length_append,length_cons]
   cases P with
   | nil=>cases hm
   | cons y r=>rw[length_cons];lia
def su:Sp:=fun vs H Q _=>∃ (l:Addr) (ts:List (Int×Int)),vs=[.ref l]∧Til H l ts∧ts.length≤1000 ∧
 ∀ (d:Addr) (es:List (Int×Addr)) (H':Hp),H d=none→ak H H'→Bes H' d (dir ts) es→Q (.ref d) H'
def pW:Sp:=fun vs H Q _=>∃ (d:Addr) (ts:List (Int×Int)) (es:List (Int×Addr)) (s:Int),vs=[.ref d,.int s]∧Bes H d (dir ts) es∧ts.length≤1000∧s∈flat ts ∧
 ∀ (l':Addr) (ms:List Int) (H':Hp),bw ts s ms→H l'=none→ak H H'→H' l'=some (.lst (ms.map V.int))→Q (.ref l') H'
def jk:Sp:=fun vs H Q _=>∃ (l:Addr) (ts:List (Int×Int)) (s:Int),vs=[.ref l,.int s]∧Til H l ts∧ts.length≤1000 ∧
 ∀ (l':Addr) (ms:List Int) (H':Hp),bw ts s ms→H l'=none→ak H H'→H' l'=some (.lst (ms.map V.int))→Q (.ref l') H'
def Lol (H:Hp)(l:Addr)(ps:List Addr)(Ps:List (List Int)):Prop:=H l=some (.lst (ps.map V.ref))∧ps.length=Ps.length∧∀ (i:Nat) p P,ps[i]? = some p→Ps[i]? = some P→H p=some (.lst (P.map V.int))
theorem Lol.same {H H':Hp}{l:Addr}{ps:List Addr}{Ps:List (List Int)}(h:Lol H l ps Ps)(s:ak H H'):Lol H' l ps Ps:=⟨s _ _ h.1,h.2.1,fun i p P e1 e2=>s _ _ (h.2.2 i p P e1 e2)⟩
theorem Lol.nil {H:Hp}{l:Addr}(h:H l=some (.lst [])):Lol H l [] []:=⟨h,rfl,fun i p P e=>by simp at e⟩
theorem Lol.snoc {H H':Hp}{l:Addr}{ps:List Addr}{Ps:List (List Int)}(h:Lol H l ps Ps)(hn:l∉ps){p:Addr}{P:List Int}(hp:H p=some (.lst (P.map V.int)))(hpl:p≠l)(c:Chg H l (.lst (ps.map V.ref++[.ref p])) H'):Lol H' l (ps++[p]) (Ps++[P]):=by
 refine⟨by rw[c.is,map_append];rfl,by simp[h.2.1],fun i q Q e1 e2=>?_⟩
 by_cases hi:i<ps.length
 ·rw[getElem?_append_left hi] at e1
  rw[getElem?_append_left (by rw[←h.2.1];exact hi)] at e2
  rw[c.oth q (fun z=>hn (z▸mem_of_getElem? e1))]
  exact h.2.2 i q Q e1 e2
 ·have e:i=ps.length:=by
   have:=am e1
   simp at this
   lia
  subst e
  simp at e1
  rw[h.2.1] at e2
  simp at e2
  subst e1 e2
  rw[c.oth p hpl]
  exact hp
theorem Lol.oth {H H':Hp}{l d:Addr}{u u':HO}{ps:List Addr}{Ps:List (List Int)}(h:Lol H l ps Ps)(c:Chg H d u' H')(hd:H d=some u)(hu:∀ xs,u≠.lst xs):Lol H' l ps Ps :=
 ⟨by rw[c.oth l (bz h.1 hd (fun z=>hu _ z.symm))];exact h.1,h.2.1,fun i p P e1 e2=>by
  have:=h.2.2 i p P e1 e2
  rw[c.oth p (bz this hd (fun z=>hu _ z.symm))]
  exact this⟩
def nD:Sp:=fun vs H Q _=>∃ (l:Addr) (ts:List (Int×Int)),vs=[.ref l]∧Til H l ts∧ts.length≤1000 ∧
 ∀ (l':Addr) (ps:List Addr) (Ps:List (List Int)) (H':Hp),ax ts Ps→H l'=none→ak H H'→Lol H' l' ps Ps→Q (.ref l') H'
end L2
namespace L2
open PySem PySem.Spec PyProof.Rows
section
open PySem.W
end
end L2
namespace L2
open PySem PySem.Spec PyProof.Rows
section
variable {X:Cx}
theorem ko (i:Int):∀ ns:List Int,inV (.int i) (ns.map V.int)=decide (i∈ns)
 | []=>rfl
 | n :: ns=>by
   have ih:=ko i ns
   show (eqV (.int n) (.int i) || inV (.int i) (ns.map V.int))=_
   rw[ih]
   show ((n == i) || _)=_
   by_cases h:n=i
   ·subst h;simp
   ·have h':¬ i=n:=fun z=>h z.symm
    simp[h,h']
theorem iE:∀ ns:List Int,(ns.map V.int).all fT=true
 | []=>rfl
 | _ :: ns=>iE ns
def uo (k:Bool→Bool):R2:=fun x y H Q=>∃ (p:Addr) (i:Int) (ns:List Int),x=.int i∧y=.ref p∧Rd H p (.lst (ns.map V.int))∧Q (.bl (k (decide (i∈ns)))) H
theorem u9:OpR X (compareOp .In) (uo id):=oK.imp fun x y H Q ⟨p,i,ns,h1,h2,h3,q⟩=>⟨p,ns.map V.int,h2,.inl (.inl h3),by rw[h1];rfl,iE ns,by rw[h1,ko];exact q⟩
theorem rL:OpR X (compareOp .NotIn) (uo not):=j9.imp fun x y H Q ⟨p,i,ns,h1,h2,h3,q⟩=>⟨p,ns.map V.int,h2,.inl (.inl h3),by rw[h1];rfl,iE ns,by rw[h1,ko];exact q⟩
end
end L2
namespace L2
open PySem PySem.Spec PyProof.Rows
def CF (φ:Nat→Int)(es:List (Int×Int))(fs:List Int):Prop:=(es.map (·.1)).Nodup∧(∀ m,m∈es.map (·.1)↔m∈fs)∧∀ e∈es,e.2=φ (fs.count e.1)
theorem CF.find {φ:Nat→Int}{es:List (Int×Int)}{fs:List Int}(h:CF φ es fs){m:Int}(hm:m∈fs):bo (kvE es) (Sum.inl m)=some (V.int (φ (fs.count m))):=by
 rw[cK]
 cases e:es.find? fun e=>decide (e.1=m) with
 | none =>
   obtain⟨x,hx,ex⟩:=mem_map.mp ((h.2.1 m).mpr hm)
   exact absurd (decide_eq_true ex) (find?_eq_none.mp e x hx)
 | some x =>
   have h0:=find?_some e
   have h2:=mem_of_find?_eq_some e
   have e1:x.1=m:=of_decide_eq_true h0
   rw[←e1,←h.2.2 x h2]
   rfl
theorem CF.get {φ:Nat→Int}{es:List (Int×Int)}{fs:List Int}(h:CF φ es fs)(h0:φ 0=0)(m:Int):(bo (kvE es) (Sum.inl m)).getD (V.int 0)=V.int (φ (fs.count m)):=by
 by_cases hm:m∈fs
 ·rw[h.find hm];rfl
 ·have hn:bo (kvE es) (Sum.inl m)=none:=by
   rw[cK,Option.map_eq_none_iff,find?_eq_none]
   intro x hx z
   exact hm ((h.2.1 m).mp (mem_map.mpr ⟨x,hx,of_decide_eq_true z⟩))
  rw[hn,count_eq_zero_of_not_mem hm,h0]
  rfl
theorem CF.put {φ:Nat→Int}{es:List (Int×Int)}{fs:List Int}(h:CF φ es fs)(m:Int):∃ es',cz (kvE es) (Sum.inl m) (V.int (φ (fs.count m+1)))=kvE es'∧CF φ es' (fs++[m]):=by
 have cnt:∀ x,((fs++[m]).count x:Nat)=fs.count x+if x=m then 1 else 0:=fun x=>by
  rw[count_append]
  by_cases z:x=m
  ·subst z;simp
  ·rw[if_neg z,count_eq_zero_of_not_mem (l:=[m]) (a:=x) (by simpa using z)]
 by_cases hm:m∈fs
 ·have ha:((kvE es).any fun kv=>decide (kv.1=Sum.inl m))=true:=by
   obtain⟨x,hx,ex⟩:=mem_map.mp ((h.2.1 m).mpr hm)
   rw[any_eq_true]
   exact⟨_,mem_map.mpr ⟨x,hx,rfl⟩,decide_eq_true (by rw[ex])⟩
  have hk:(es.map fun e=>if e.1=m then (e.1,φ (fs.count m+1)) else e).map (·.1)=es.map (·.1):=by
   rw[map_map]
   apply map_congr_left
   intro e _
   show (if e.1=m then (e.1,φ (fs.count m+1)) else e).1=e.1
   split <;> rfl
  refine⟨es.map fun e=>if e.1=m then (e.1,φ (fs.count m+1)) else e,?_,?_,?_,?_⟩
  ·unfold cz
   rw[if_pos ha]
   unfold kvE
   rw[map_map,map_map]
   apply map_congr_left
   intro e _
   show (if (Sum.inl e.1:Key)=Sum.inl m then _ else _)=_
   by_cases z:e.1=m
   ·rw[if_pos (by rw[z])]
    show _=((Sum.inl (if e.1=m then (e.1,φ (fs.count m+1)) else e).1:Key),V.int (if e.1=m then (e.1,φ (fs.count m+1)) else e).2)
    rw[if_pos z]
   ·rw[if_neg (fun q=>z (by injection q))]
    show _=((Sum.inl (if e.1=m then (e.1,φ (fs.count m+1)) else e).1:Key),V.int (if e.1=m then (e.1,φ (fs.count m+1)) else e).2)
    rw[if_neg z]
  ·rw[hk];exact h.1
  ·intro x
   rw[hk,h.2.1 x,mem_append,mem_singleton]
   exact⟨.inl,fun q=>q.elim id fun z=>z▸hm⟩
  ·intro e he
   obtain⟨x,hx,rfl⟩:=mem_map.mp he
   by_cases z:x.1=m
   ·rw[if_pos z]
    show φ (fs.count m+1)=_
    rw[cnt,if_pos z,z]
   ·rw[if_neg z,cnt,if_neg z]
    exact h.2.2 x hx
 ·have hnk:m∉es.map (·.1):=fun z=>hm ((h.2.1 m).mp z)
  have hv:bo (kvE es) (Sum.inl m)=none:=by
   rw[cK,Option.map_eq_none_iff,find?_eq_none]
   intro x hx z
   exact hnk (mem_map.mpr ⟨x,hx,of_decide_eq_true z⟩)
  refine⟨es++[(m,φ (fs.count m+1))],by rw[fK _ hv];unfold kvE;rw[map_append];rfl,?_,?_,?_⟩
  ·rw[map_append,nodup_append]
   refine⟨h.1,by simp,fun x hx y hy=>?_⟩
   have:y=m:=by simpa using hy
   rw[this]
   exact fun z=>hnk (z▸hx)
  ·intro x
   rw[map_append,mem_append,mem_append,h.2.1 x]
   rfl
  ·intro e he
   rcases mem_append.mp he with he | he
   ·have ne:e.1≠m:=fun z=>hnk (z▸mem_map.mpr ⟨e,he,rfl⟩)
    rw[cnt,if_neg ne]
    exact h.2.2 e he
   ·have:e=(m,φ (fs.count m+1)):=by simpa using he
    subst this
    rw[cnt,if_pos rfl]
theorem CF.len {φ:Nat→Int}{es:List (Int×Int)}{fs:List Int}(h:CF φ es fs):es.length≤fs.length:=by
 have:=aD (b:=fs) h.1 fun x hx=>(h.2.1 x).mp hx
 rwa [length_map] at this
def qm (n:Nat):Int:=(n:Int) % 2
theorem oI (n:Nat):qm (n+1)=1-qm n:=by unfold qm;lia
theorem ax.uniq {ts:List (Int×Int)}{Ps Qs:List (List Int)}(h:ax ts Ps)(g:ax ts Qs):Ps=Qs:=by
 have half:∀ {Ps Qs:List (List Int)},ax ts Ps→ax ts Qs→∀ P∈Ps,P∈Qs:=fun {Ps Qs} h g P hP=>by
  obtain⟨m,hm,hpm⟩:=h.part P hP
  have hmP:m∈P:=(hpm.2 m).mpr aq.refl
  have hmf:m∈flat ts:=(h.all m).mp (mem_flatten.mpr ⟨P,hP,hmP⟩)
  obtain⟨Q,hQ,hmQ⟩:=mem_flatten.mp ((g.all m).mpr hmf)
  obtain⟨k,hk,hqk⟩:=g.part Q hQ
  have r:aq ts k m:=(hqk.2 m).mp hmQ
  have e:P=Q:=b7 hpm.1 hqk.1 fun x=>(hpm.2 x).trans ⟨fun z=>(hqk.2 x).mpr (r.trans z),fun z=>r.symm.trans ((hqk.2 x).mp z)⟩
  rw[e]
  exact hQ
 have hd:∀ {Ps:List (List Int)},ax ts Ps→∀ x,x∈bA Ps↔∃ P∈Ps,P.head? = some x:=fun {Ps} _ x=>by
  unfold bA
  rw[mem_filterMap]
 have hh:bA Ps=bA Qs:=b7 h.rise g.rise fun x=>by
  rw[hd h x,hd g x]
  exact⟨fun⟨P,hP,e⟩=>⟨P,half h g P hP,e⟩,fun⟨P,hP,e⟩=>⟨P,half g h P hP,e⟩⟩
 have key:∀ {Ps Qs:List (List Int)},(∀ P∈Ps,∃ m,P.head? = some m∧bw ts m P)→(∀ P∈Qs,∃ m,P.head? = some m∧bw ts m P)→bA Ps=bA Qs→Ps=Qs:=by
  intro Ps
  induction Ps with
  | nil =>
    intro Qs _ hq e
    cases Qs with
    | nil=>rfl
    | cons Q Qs =>
      obtain⟨m,hm,_⟩:=hq Q mem_cons_self
      unfold bA at e
      rw[filterMap_cons,hm] at e
      cases e
  | cons P Ps ih =>
    intro Qs hp hq e
    obtain⟨m,hm,hpm⟩:=hp P mem_cons_self
    cases Qs with
    | nil =>
      unfold bA at e
      rw[filterMap_cons,hm] at e
      cases e
    | cons Q Qs =>
      obtain⟨k,hk,hqk⟩:=hq Q mem_cons_self
      unfold bA at e
      rw[filterMap_cons,hm,filterMap_cons,hk] at e
      injection e with e1 e2
      subst e1
      rw[hpm.uniq hqk,ih (fun P hP=>hp P (mem_cons_of_mem _ hP)) (fun P hP=>hq P (mem_cons_of_mem _ hP)) e2]
 exact key h.part g.part hh
structure GrI (ts:List (Int×Int))(Ps:List (List Int))(left:List Int):Prop where
 part:∀ P∈Ps,∃ m,P.head? = some m∧bw ts m P
 rise:(bA Ps).Pairwise (· < ·)
 once:Ps.flatten.Nodup
 among:∀ x∈Ps.flatten,x∈flat ts
 sort:left.Pairwise (· < ·)
 mem:∀ x,x∈left↔x∈flat ts∧x∉Ps.flatten
 over:∀ h∈bA Ps,∀ x∈left,h<x
theorem GrI.step {ts:List (Int×Int)}{Ps:List (List Int)}{m:Int}{r P:List Int}(g:GrI ts Ps (m :: r))(hP:bw ts m P):GrI ts (Ps++[P]) ((m :: r).filter fun x=>decide (x∉P)):=by
 have hmem:=g.mem m
 have hm:=hmem.mp mem_cons_self
 have hmP:m∈P:=(hP.2 m).mpr aq.refl
 have apart:∀ x∈P,x∉Ps.flatten:=fun x hx hxp=>by
  obtain⟨P',hP',hx'⟩:=mem_flatten.mp hxp
  obtain⟨a,_,h2⟩:=g.part P' hP'
  have r1:=(h2.2 x).mp hx'
  have r2:=(hP.2 x).mp hx
  exact hm.2 (mem_flatten.mpr ⟨P',hP',(h2.2 m).mpr (r1.trans r2.symm)⟩)
 have inl:∀ x∈P,x∈m :: r:=fun x hx=>(g.mem x).mpr ⟨((hP.2 x).mp hx).marks hm.1,apart x hx⟩
 have hs:=g.sort
 rw[pairwise_cons] at hs
 have hhead:P.head? = some m:=by
  cases P with
  | nil=>exact absurd hmP (by simp)
  | cons y q =>
    have hw:=hP.1
    rw[pairwise_cons] at hw
    by_cases c:y=m
    ·rw[c];rfl
    ·exfalso
     have h1:y<m:=by
      rcases mem_cons.mp hmP with z | z
      ·exact absurd z.symm c
      ·exact hw.1 m z
     rcases mem_cons.mp (inl y mem_cons_self) with z | z
     ·exact c z
     ·have:=hs.1 y z;lia
 refine⟨fun Q hQ=>?_,?_,?_,fun x hx=>?_,g.sort.sublist List.filter_sublist,fun x=>?_,fun h hh x hx=>?_⟩
 ·rcases mem_append.mp hQ with hQ | hQ
  ·exact g.part Q hQ
  ·rw[mem_singleton.mp hQ];exact⟨m,hhead,hP⟩
 ·unfold bA
  rw[List.filterMap_append,pairwise_append]
  refine⟨g.rise,by simp[hhead],fun x hx y hy=>?_⟩
  have:y=m:=by
   rw[filterMap_cons,hhead] at hy
   simpa using hy
  rw[this]
  exact g.over x hx m mem_cons_self
 ·rw[flatten_append,nodup_append]
  refine⟨g.once,by simpa using hP.nodup,fun x hx y hy z=>?_⟩
  have hy':y∈P:=by simpa using hy
  exact apart y hy' (z▸hx)
 ·rw[flatten_append,mem_append] at hx
  rcases hx with hx | hx
  ·exact g.among x hx
  ·have hx':x∈P:=by simpa using hx
   exact ((hP.2 x).mp hx').marks hm.1
 ·rw[mem_filter,g.mem x,flatten_append,mem_append]
  simp[and_assoc]
 ·have hx':=(mem_filter.mp hx)
  have hxn:x∉P:=by simpa using hx'.2
  unfold bA at hh
  rw[List.filterMap_append,mem_append] at hh
  rcases hh with hh | hh
  ·exact g.over h hh x hx'.1
  ·have:h=m:=by
    rw[filterMap_cons,hhead] at hh
    simpa using hh
   rw[this]
   rcases mem_cons.mp hx'.1 with z | z
   ·exact absurd (z▸hmP) hxn
   ·exact hs.1 x z
theorem GrI.done {ts:List (Int×Int)}{Ps:List (List Int)}(g:GrI ts Ps []):ax ts Ps :=
 ⟨g.part,g.rise,g.once,fun x=>⟨g.among x,fun hx=>Classical.byContradiction fun z=>absurd ((g.mem x).mpr ⟨hx,z⟩) (by simp)⟩⟩
def kX:Sp:=fun vs H Q _=>∃ (l:Addr) (ts:List (Int×Int)),vs=[.ref l]∧Til H l ts∧ts.length≤1000 ∧
 ∀ (l':Addr) (ps:List Addr) (Ps:List (List Int)) (H':Hp),ax ts Ps→H l'=none→ak H H'→Lol H' l' ps Ps→Q (.ref l') H'
def nB:Sp:=fun vs H Q _=>∃ (p:Addr) (st:Int×Bool) (n:Int),vs=[.ref p,.int n]∧H p=some (.tup (scS st))∧0≤st.1∧st.1<n∧Q (.bl true) H
end L2
namespace L2
open PySem PySem.Spec PyProof.Rows
def mE (tl:TE):TE:=fun σ H Q=>tl σ H fun x H1=>∃ n:Nat,x=.int n∧n≤sizeLine∧∀ p H2,New H1 p (.lst ((List.range n).map fun (i:Nat)=>V.int i)) H2→Q (.ref p) H2
section
variable {X:Cx}
theorem j6 {l:Expr}{tl:TE}{p p2 pos pos2:Pos}(hc:X.calm=true)(hg:Gl X "list")(hg2:Gl X "range")(hm:X.mg "list" = none)(hm2:X.mg "range" = none)(hl:PE X l tl)
 (hs:starEach [l] X.env=[(false,eval l X.env)]:=by rfl)
 (hs2:starEach [.Call (.Name "range" p2) [l] [] pos2] X.env=[(false,eval (.Call (.Name "range" p2) [l] [] pos2) X.env)]:=by rfl) :
 PE X (.Call (.Name "list" p) [.Call (.Name "range" p2) [l] [] pos2] [] pos) (mE tl):=by
 intro pins s σ H Q I h
 have ha:PA X [l] (kR tl mD):=aa hl ae hs
 refine Call_ (dE I hg hm gV (PyProof.Rows.callWith_type1 ?_ hs2 rfl))
 rw[hs2]
 show wpAny _ _ (spliced ((false,eval (.Call (.Name "range" p2) [l] [] pos2) X.env) :: backTo pos [])) _ _ s
 refine Calls.spliced_cons ?_
 refine Call_ (dE I hg2 hm2 mj (PyProof.Rows.callWith_type1 (thn (ha pos2 pins s σ H (fun vs H1=>match vs with | [x]=>∃ n:Nat,x=.int n∧n≤sizeLine∧∀ p H2,New H1 p (.lst ((List.range n).map fun (i:Nat)=>V.int i)) H2→Q (.ref p) H2 | _=>False) I h) fun us s1 ⟨vs,H1,I1,r1,q1⟩=>?_) hs rfl))
 obtain⟨n,e,hz,q⟩:∃ n:Nat,vs=[.int n]∧n≤sizeLine∧∀ p H2,New H1 p (.lst ((List.range n).map fun (i:Nat)=>V.int i)) H2→Q (.ref p) H2:=by
  match vs,q1 with
  | [x],q1=>obtain⟨n,e,hq,q⟩:=q1;exact⟨n,by rw[e],hq,q⟩
 subst e
 cases r1 with
 | cons r rr =>
   cases rr
   obtain⟨t,rfl⟩:=r
   have hz2:n≤2 ^ 24:=hz
   refine call_range_1 ?_
   refine Calls.spliced_nil ?_
   refine call_list_range (s:={ s1 with heap:=s1.heap.push { cls:=.type "range",data:=.fields #[.int 0 s1.toks,.int n t,.int 1 (s1.toks+1)] },toks:=s1.toks+1+1 }) (n:=n) (I1.ok.hd hc) (IsRange.new _ _ _ _ _ _ _) (small_one (by decide) (by decide) (by lia) (by lia)) (by rw[rangeSize_one];split <;> lia) hz2 fun h' tk acc c k1 k2 k3=>?_
   have hk:∀ b o,s1.heap.get? b=some o→h'.get? b=some o:=fun b o e=>k1 b o (Heap.get?_push_of_some _ e)
   have hI:IntsAre acc.toList ((List.range n).map fun (i:Nat)=>(i:Int)):=by
    refine eF (by rw[Array.length_toList,k3.1];simp) fun j v e=>?_
    have e':acc[j]? = some v:=by rw[←Array.getElem?_toList];exact e
    obtain⟨u,e2⟩:=k3.2 j v e'
    have hj:j<n:=by
     have:=Array.getElem?_eq_some_iff.1 e'
     obtain⟨h1,_⟩:=this
     rw[k3.1] at h1;exact h1
    refine⟨u,?_⟩
    rw[e2,getD_eq_getElem?_getD,getElem?_map,getElem?_range hj]
    simp
   have rv:=fX hI
   rw[map_map] at rv
   refine eD (s:=s1) (n':=c) (out:=acc.toList) (tk:=tk) I1 hk (fun b o e=>Heap.lt_size (Heap.get?_push_of_some _ e)) (by simpa using k2) rv (by simpa using hz) fun H2 n=>q _ H2 n
end
end L2
namespace L2
open PySem PySem.Spec PyProof.Rows
def kU:Sp:=fun vs H Q _=>∃ (t r:Addr) (ts:List (Int×Int)) (row:List (Int×Bool)),vs=[.ref t,.ref r]∧Til H t ts∧Row H r row∧row.length≤1000∧row≠[]∧dH ts row ∧
 ∀ (p l:Addr) (H':Hp),ak H H'→H' p=some (.tup [.ref l,.int (ah ts (row.getD 0 (0,false))).1,.int (ah ts (row.getD (row.length-1) (0,false))).2])→H' l=some (.lst ((row.map (·.1)).map V.int))→Q (.ref p) H'
theorem dH.meet {ts:List (Int×Int)}{row:List (Int×Bool)}{i:Nat}{st:Int×Bool}(h:dH ts row)(e:row[i]? = some st)(hi:0<i):(ah ts st).1=(ah ts (row.getD (i-1) (0,false))).2:=by
 have hb:=h i (am e)
 have hin:=qV e hb
 by_cases m:st.1∈(row.take i).map (·.1)
 ·rw[pH e hin m] at hb;cases hb
 ·by_cases c:(ah ts st).1=(ah ts (row.getD (i-1) (0,false))).2
  ·exact c
  ·rw[pI e hin m ⟨hi,c⟩] at hb;cases hb
end L2
namespace L2
open PySem PySem.Spec PyProof.Rows
theorem ir {qs:List Addr}{i:Nat}{x:V}(h:(qs.map V.ref)[i]? = some x):∃ a,qs[i]? = some a∧x=V.ref a:=by
 rw[getElem?_map] at h
 cases e:qs[i]? with
 | none=>rw[e] at h;cases h
 | some a=>rw[e] at h;cases h;exact⟨a,rfl,rfl⟩
end L2
namespace L2
open PySem PySem.Spec PyProof.Rows
theorem qX:∀ {ms:List Int} {a:Int},ms.Pairwise (· < ·)→(∀ x∈ms,a≤x∧x<a+ms.length)→ms=(List.range ms.length).map fun (i:Nat)=>a+i
 | [],a,_,_=>rfl
 | m :: ms,a,hp,hb=>by
   rw[pairwise_cons] at hp
   have h0:=hb m (by simp)
   have ih:=qX (ms:=ms) (a:=a+1) hp.2 fun x hx=>by
    have h1:=hb x (by simp[hx])
    have h2:=hp.1 x hx
    rw[length_cons] at h1
    lia
   have hm:m=a:=by
    cases ms with
    | nil=>simp only[length_cons,length_nil] at h0;lia
    | cons y ys =>
      have h2:=hp.1 y (by simp)
      have e:=congrArg List.head? ih
      rw[length_cons,List.range_succ_eq_map] at e
      simp only[map_cons,List.head?_cons,Option.some.injEq] at e
      lia
   rw[length_cons,List.range_succ_eq_map,map_cons,map_map]
   conv=>lhs;rw[ih]
   rw[hm]
   congr 1
   ·simp
   ·refine map_congr_left fun i _=>?_
    show a+1+(i:Int)=a+((i+1:Nat):Int)
    lia
end L2
namespace L2
open PySem PySem.Spec PyProof.Rows
theorem gw {P:List Int}:∀ {Ps:List (List Int)},P∈Ps→P.length≤Ps.flatten.length
 | Q :: Ps,h=>by
   rw[flatten_cons,length_append]
   rcases mem_cons.mp h with e | e
   ·rw[e];lia
   ·have:=gw e;lia
theorem ax.lenP {ts:List (Int×Int)}{Ps:List (List Int)}(h:ax ts Ps){P:List Int}(hP:P∈Ps):P.length≤2*ts.length:=by
 have h2:=aD (b:=flat ts) h.once fun x hx=>(h.all x).mp hx
 rw[bg] at h2
 exact Nat.le_trans (gw hP) h2
end L2
namespace L2
open PySem PySem.Spec PyProof.Rows
def gW (odds P:List Int):Nat:=max 1 ((P.filter fun x=>decide (x∈odds)).length / 2)
def cJ (odds:List Int)(Ps:List (List Int)):Nat:=(Ps.map (gW odds)).sum
def kT:Sp:=fun vs H Q _=>∃ (l:Addr) (ts:List (Int×Int)),vs=[.ref l]∧Til H l ts∧ts.length≤1000 ∧
 ∀ (Ps:List (List Int)) (ms:List Int) (H':Hp),ax ts Ps→aR ts ms→ak H H'→Q (.int (cJ (bE ts ms) Ps)) H'
theorem mx {odds:List Int}{Ps:List (List Int)}{i:Nat}{P:List Int}(e:Ps[i]? = some P):cJ odds (Ps.take (i+1))=cJ odds (Ps.take i)+gW odds P:=by
 unfold cJ
 rw[take_add_one,e]
 simp
theorem pJ (n:Nat):(if ((n:Int) / 2)>1 then ((n:Int) / 2) else 1)=((max 1 (n / 2):Nat):Int):=by
 by_cases c:((n:Int) / 2)>1
 ·rw[if_pos c];lia
 ·rw[if_neg c];lia
end L2
namespace L2
open PySem PySem.Spec PyProof.Rows
def Chn:List (Int×Int×Bool)→Prop
 | []=>True
 | [_]=>True
 | a :: b :: r=>a.2.1=b.1∧Chn (b :: r)
theorem Chn.snoc:∀ {R:List (Int×Int×Bool)} {st x:Int×Int×Bool},Chn R→R.getLast? = some st→st.2.1=x.1→Chn (R++[x])
 | [],st,x,_,h,_=>by simp at h
 | [a],st,x,_,h,e=>by
   have:a=st:=by simpa using h
   subst this
   exact⟨e,trivial⟩
 | a :: b :: r,st,x,c,h,e=>by
   have h':(b :: r).getLast? = some st:=by rw[←h,getLast?_cons_cons]
   exact⟨c.1,Chn.snoc c.2 h' e⟩
def cP (zs ns:List Int)(k:Nat):Int:=ns.getD (zs.getD k 0 % ns.length).toNat 0
def eK (zs ns:List Int)(k:Nat)(ps:List (Int×Int×Bool))(r:Nat)(g:Bool):Prop :=
 ∃ Rs:List (List (Int×Int×Bool)),ps=Rs.flatten∧Rs.length=r∧(∀ R∈Rs,R≠[]∧Chn R)∧(g=true→∃ R0 R st,Rs=R0++[R]∧R.getLast? = some st∧st.2.1=cP zs ns k)
theorem eK.nil (zs ns:List Int):eK zs ns 0 [] 0 false:=⟨[],rfl,rfl,by simp,fun h=>by cases h⟩
theorem eK.off {zs ns:List Int}{k r:Nat}{ps:List (Int×Int×Bool)}{g:Bool}(h:eK zs ns k ps r g):eK zs ns (k+1) ps r false:=by
 obtain⟨Rs,h1,h2,h3,_⟩:=h
 exact⟨Rs,h1,h2,h3,fun h=>by cases h⟩
theorem eK.on {zs ns:List Int}{k r:Nat}{ps:List (Int×Int×Bool)}{g:Bool}(h:eK zs ns k ps r g){b:Bool}:eK zs ns (k+1) (ps++[(cP zs ns k,cP zs ns (k+1),b)]) (r+if g=true then 0 else 1) true:=by
 obtain⟨Rs,h1,h2,h3,h4⟩:=h
 cases g with
 | false =>
   refine⟨Rs++[[(cP zs ns k,cP zs ns (k+1),b)]],by rw[h1];simp,by simp[h2],fun R hR=>?_,fun _=>⟨Rs,_,_,rfl,rfl,rfl⟩⟩
   rcases mem_append.mp hR with c | c
   ·exact h3 R c
   ·rw[mem_singleton.mp c]
    exact⟨by simp,trivial⟩
 | true =>
   obtain⟨R0,R,st,e1,e2,e3⟩:=h4 rfl
   refine⟨R0++[R++[(cP zs ns k,cP zs ns (k+1),b)]],by rw[h1,e1];simp,by rw[e1] at h2;simpa using h2,fun S hS=>?_,fun _=>⟨R0,_,(cP zs ns k,cP zs ns (k+1),b),rfl,by simp,rfl⟩⟩
   rcases mem_append.mp hS with c | c
   ·exact h3 S (by rw[e1];exact mem_append_left _ c)
   ·rw[mem_singleton.mp c]
    exact⟨by simp,(h3 R (by rw[e1];simp)).2.snoc e2 e3⟩
def pV:Sp:=fun vs H Q _=>∃ (l n:Addr) (zs ns:List Int) (sh:Int),vs=[.ref l,.ref n,.int sh]∧H l=some (.lst (zs.map V.int))∧H n=some (.lst (ns.map V.int))∧0<sh∧zs.length≤126∧1≤ns.length∧ns.length≤40 ∧
 ∀ (p l':Addr) (ps:List (Int×Int×Bool)) (r:Nat) (H':Hp),ps.length≤zs.length→(∃ g,eK zs ns (zs.length-1) ps r g)→ak H H'→H' p=some (.tup [.ref l',.int r])→Prt H' l' ps→Q (.ref p) H'
end L2
namespace L2
open PySem PySem.Spec PyProof.Rows
def db (R:List (Int×Int×Bool)):List Int:=R.flatMap fun t=>[t.1,t.2.1]
def isV (a m:Int):Nat:=if a=m then 1 else 0
theorem bF (a b m:Int)(xs:List Int):(a :: b :: xs).count m=isV a m+isV b m+xs.count m:=by
 rw[count_cons,count_cons]
 unfold isV
 by_cases h1:a=m <;> by_cases h2:b=m <;> simp[h1,h2] <;> lia
theorem oa:∀ {R:List (Int×Int×Bool)} {x y:Int×Int×Bool},Chn R→R.head? = some x→R.getLast? = some y→∀ m,(db R).count m % 2=(isV x.1 m+isV y.2.1 m) % 2
 | [],_,_,_,h,_,_=>by simp at h
 | [a],x,y,_,h1,h2,m=>by
   have e1:a=x:=by simpa using h1
   have e2:a=y:=by simpa using h2
   subst e1 e2
   show ([a.1,a.2.1]:List Int).count m % 2=_
   rw[bF]
   simp
 | a :: b :: r,x,y,c,h1,h2,m=>by
   have e1:a=x:=by simpa using h1
   subst e1
   have h2':(b :: r).getLast? = some y:=by rw[←h2,getLast?_cons_cons]
   have ih:=oa c.2 rfl h2' m
   show (a.1 :: a.2.1 :: db (b :: r)).count m % 2=_
   rw[bF,c.1]
   have:isV b.1 m=0∨isV b.1 m=1:=by unfold isV;by_cases h:b.1=m <;> simp[h]
   lia
end L2
namespace L2
open PySem PySem.Spec PyProof.Rows
theorem nO {a:Int}:∀ {Ps:List (List Int)},Ps.flatten.Nodup→(Ps.map fun P=>if a∈P then 1 else 0).sum≤1
 | [],_=>by simp
 | P :: Ps,h=>by
   rw[flatten_cons,nodup_append] at h
   rw[map_cons,sum_cons]
   have ih:=nO (a:=a) h.2.1
   by_cases c:a∈P
   ·rw[if_pos c]
    have z:∀ {Qs:List (List Int)},(∀ Q∈Qs,a∉Q)→(Qs.map fun P=>if a∈P then 1 else 0).sum=0:=by
     intro Qs
     induction Qs with
     | nil=>intro _;rfl
     | cons Q Qs ih =>
       intro k
       rw[map_cons,sum_cons,if_neg (k Q (by simp)),ih fun Q' hQ=>k Q' (by simp[hQ])]
    rw[z fun Q hQ hq=>h.2.2 a c a (mem_flatten.mpr ⟨Q,hQ,hq⟩) rfl]
    exact Nat.le_refl _
   ·rw[if_neg c];lia
theorem oz {Ps:List (List Int)}{f g:List Int→Nat}:(Ps.map fun P=>f P+g P).sum=(Ps.map f).sum+(Ps.map g).sum:=by
 induction Ps with
 | nil=>rfl
 | cons P Ps ih=>simp only[map_cons,sum_cons,ih];lia
theorem jh {α:Type}(h:α→Int){Ps:List (List Int)}(hn:Ps.flatten.Nodup):∀ Rs:List α,(Ps.map fun P=>(Rs.filter fun R=>decide (h R∈P)).length).sum≤Rs.length
 | []=>by
   have:(Ps.map fun P=>(([]:List α).filter fun R=>decide (h R∈P)).length).sum=0:=by
    induction Ps with
    | nil=>rfl
    | cons P Ps ih=>
      rw[flatten_cons,nodup_append] at hn
      rw[map_cons,sum_cons,ih hn.2.1];rfl
   rw[this];exact Nat.zero_le _
 | R :: Rs=>by
   have ih:=jh h hn Rs
   have h1:=nO (a:=h R) hn
   have e:(fun P:List Int=>((R :: Rs).filter fun R=>decide (h R∈P)).length)=fun P=>(if h R∈P then 1 else 0)+(Rs.filter fun R=>decide (h R∈P)).length:=by
    funext P
    rw[filter_cons]
    by_cases c:h R∈P
    ·rw[if_pos (decide_eq_true c),if_pos c,length_cons];lia
    ·rw[if_neg (by simpa using c),if_neg c];lia
   rw[e,oz,length_cons]
   lia
theorem sQ {Ps:List (List Int)}{f g:List Int→Nat}(h:∀ P∈Ps,f P≤g P):(Ps.map f).sum≤(Ps.map g).sum:=by
 induction Ps with
 | nil=>exact Nat.le_refl _
 | cons P Ps ih =>
   simp only[map_cons,sum_cons]
   have h1:=h P (by simp)
   have h2:=ih fun Q hQ=>h Q (by simp[hQ])
   lia
end L2
namespace L2
open PySem PySem.Spec PyProof.Rows
def hdR (R:List (Int×Int×Bool)):Int:=(R.head?.map (·.1)).getD 0
def ltR (R:List (Int×Int×Bool)):Int:=(R.getLast?.map (·.2.1)).getD 0
theorem jz {ts us:List (Int×Int)}(h:ts.Perm us):(flat ts).Perm (flat us):=by
 induction h with
 | nil=>exact .refl _
 | cons x _ ih=>exact (ih.cons _).cons _
 | swap x y l =>
   show (y.1 :: y.2 :: x.1 :: x.2 :: flat l).Perm (x.1 :: x.2 :: y.1 :: y.2 :: flat l)
   rw[List.perm_iff_count]
   intro m
   rw[bF,bF,bF,bF]
   lia
 | trans _ _ a b=>exact a.trans b
theorem fw (m:Int):∀ ps:List (Int×Int×Bool),(flat (ps.map bu)).count m=(db ps).count m
 | []=>rfl
 | p :: ps=>by
   have ih:=fw m ps
   show ((bu p).1 :: (bu p).2 :: flat (ps.map bu)).count m=(p.1 :: p.2.1 :: db ps).count m
   rw[bF,bF,ih]
   unfold bu
   by_cases c:p.2.2=true
   ·rw[if_pos c];show isV p.2.1 m+isV p.1 m+_=_;lia
   ·rw[if_neg c]
theorem jF {ts:List (Int×Int)}:∀ {R:List (Int×Int×Bool)},Chn R→(∀ t∈R,aq ts t.1 t.2.1)→∀ {x},R.head? = some x→∀ m∈db R,aq ts x.1 m
 | [],_,_,_,h,_,_=>by simp at h
 | [a],_,hr,x,h,m,hm=>by
   have e:a=x:=by simpa using h
   subst e
   have hm':m∈[a.1,a.2.1]:=hm
   rcases mem_cons.mp hm' with z | z
   ·rw[z];exact aq.refl
   ·rw[mem_singleton.mp z];exact hr a (by simp)
 | a :: b :: r,c,hr,x,h,m,hm=>by
   have e:a=x:=by simpa using h
   subst e
   have h1:=hr a (by simp)
   have hm':m∈a.1 :: a.2.1 :: db (b :: r):=hm
   rcases mem_cons.mp hm' with z | z
   ·rw[z];exact aq.refl
   rcases mem_cons.mp z with z | z
   ·rw[z];exact h1
   ·have ih:=jF c.2 (fun t ht=>hr t (by simp at ht ⊢;exact .inr ht)) rfl m z
    rw[c.1] at h1
    exact h1.trans ih
theorem l3 (m:Int):∀ {Rs:List (List (Int×Int×Bool))},(∀ R∈Rs,(db R).count m % 2=0)→(db Rs.flatten).count m % 2=0
 | [],_=>rfl
 | R :: Rs,h=>by
   have h1:=h R (by simp)
   have h2:=l3 m (Rs:=Rs) fun S hS=>h S (by simp[hS])
   rw[flatten_cons]
   unfold db at *
   rw[flatMap_append,count_append]
   lia
theorem rP {α:Type}(f g:α→Int)(Rs:List α):(Rs.flatMap fun R=>[f R,g R]).length=2*Rs.length:=by
 induction Rs with
 | nil=>rfl
 | cons R Rs ih=>rw[flatMap_cons,length_append,ih,length_cons];simp;lia
theorem g6 {ts:List (Int×Int)}{ps:List (Int×Int×Bool)}{Rs:List (List (Int×Int×Bool))}{Ps:List (List Int)}{ms:List Int}(hp:ts.Perm (ps.map bu))(e:ps=Rs.flatten)(hR:∀ R∈Rs,R≠[]∧Chn R)(hP:ax ts Ps)(hM:aR ts ms):cJ (bE ts ms) Ps≤Rs.length:=by
 have hr:∀ R∈Rs,∀ t∈R,aq ts t.1 t.2.1:=fun R h1 t h2=>by
  have h3:bu t∈ts:=hp.mem_iff.mpr (mem_map.mpr ⟨t,by rw[e];exact mem_flatten.mpr ⟨R,h1,h2⟩,rfl⟩)
  have h4:=aq.tile h3
  unfold bu at h4
  by_cases c:t.2.2=true
  ·rw[if_pos c] at h4;exact h4.symm
  ·rw[if_neg c] at h4;exact h4
 have hx:∀ R∈Rs,∃ x y,R.head? = some x∧R.getLast? = some y∧hdR R=x.1∧ltR R=y.2.1∧x.1∈db R∧y.2.1∈db R:=fun R h1=>by
  obtain⟨h2,_⟩:=hR R h1
  cases R with
  | nil=>exact absurd rfl h2
  | cons a r =>
    have h3:=List.getLast?_eq_some_getLast (l:=a :: r) (by simp)
    refine⟨a,_,rfl,h3,rfl,by unfold ltR;rw[h3];rfl,mem_flatMap.mpr ⟨a,by simp,by simp⟩,mem_flatMap.mpr ⟨_,List.getLast_mem (by simp),by simp⟩⟩
 refine Nat.le_trans (sQ (g:=fun P=>(Rs.filter fun R=>decide (hdR R∈P)).length) fun P hPm=>?_) (jh hdR hP.once Rs)
 obtain⟨m,hm,hPo⟩:=hP.part P hPm
 have inP:∀ R∈Rs,∀ k∈db R,k∈P→hdR R∈P:=fun R h1 k h2 h3=>by
  obtain⟨x,y,e1,e2,e3,e4,e5,e6⟩:=hx R h1
  rw[e3,hPo.2]
  exact ((hPo.2 k).mp h3).trans (jF (hR R h1).2 (hr R h1) e1 k h2).symm
 unfold gW
 refine Nat.max_le.mpr ⟨?_,?_⟩
 ·have h1:m∈P:=List.mem_of_mem_head? (by rw[hm];rfl)
  have h2:m∈flat ts:=(hP.all m).mp (mem_flatten.mpr ⟨P,hPm,h1⟩)
  have h3:0<(db ps).count m:=by
   rw[←fw,←(jz hp).count_eq]
   exact count_pos_iff.mpr h2
  obtain⟨t,h4,h5⟩:=mem_flatMap.mp (count_pos_iff.mp h3)
  rw[e] at h4
  obtain⟨R,h6,h7⟩:=mem_flatten.mp h4
  exact length_pos_of_mem (mem_filter.mpr ⟨h6,decide_eq_true (inP R h6 m (mem_flatMap.mpr ⟨t,h7,h5⟩) h1)⟩)
 ·have hl:=aD (a:=P.filter fun x=>decide (x∈bE ts ms)) (b:=(Rs.filter fun R=>decide (hdR R∈P)).flatMap fun R=>[hdR R,ltR R]) (hPo.nodup.filter _) fun k hk=>?_
  ·rw[rP] at hl
   lia
  ·obtain⟨hk1,hk2⟩:=mem_filter.mp hk
   have hk3:aI ts k % 2=1:=by
    have:=of_decide_eq_true hk2
    unfold bE at this
    exact of_decide_eq_true (mem_filter.mp this).2
   apply Classical.byContradiction
   intro no
   have ev:(db Rs.flatten).count k % 2=0:=l3 k fun R h1=>by
    obtain⟨x,y,e1,e2,e3,e4,e5,e6⟩:=hx R h1
    rw[oa (hR R h1).2 e1 e2]
    have n1:x.1≠k:=fun z=>no (mem_flatMap.mpr ⟨R,mem_filter.mpr ⟨h1,decide_eq_true (inP R h1 k (z▸e5) hk1)⟩,by rw[e3,z];simp⟩)
    have n2:y.2.1≠k:=fun z=>no (mem_flatMap.mpr ⟨R,mem_filter.mpr ⟨h1,decide_eq_true (inP R h1 k (z▸e6) hk1)⟩,by rw[e4,z];simp⟩)
    unfold isV
    rw[if_neg n1,if_neg n2]
   unfold aI at hk3
   rw[(jz hp).count_eq,fw,e] at hk3
   lia
end L2
namespace L2
open PySem PySem.Spec PyProof.Rows
def jM (H:Hp)(p:Addr)(rs:List Addr)(rows:List (List (Int×Bool))):Prop:=H p=some (.lst (rs.map V.ref))∧rs.length=rows.length∧∀ (i:Nat) r row,rs[i]? = some r→rows[i]? = some row→Row H r row
theorem jM.same {H H':Hp}{p:Addr}{rs:List Addr}{rows:List (List (Int×Bool))}(h:jM H p rs rows)(s:ak H H'):jM H' p rs rows:=⟨s _ _ h.1,h.2.1,fun i r row e1 e2=>(h.2.2 i r row e1 e2).same s⟩
def mq (ts:List (Int×Int))(rows:List (List (Int×Bool))):Prop:=(∀ row∈rows,row≠[]∧dH ts row)∧(rows.flatten.map (·.1)).Perm ((List.range ts.length).map fun (i:Nat)=>(i:Int)) ∧
 ∀ Ps ms,ax ts Ps→aR ts ms→rows.length=cJ (bE ts ms) Ps
def kY:Sp:=fun vs H Q _=>∃ (l:Addr) (ts:List (Int×Int)),vs=[.ref l]∧Til H l ts∧ts.length≤1000 ∧
 ∀ (p:Addr) (rs:List Addr) (rows:List (List (Int×Bool))) (H':Hp),ak H H'→jM H' p rs rows→mq ts rows→Q (.ref p) H'
theorem mG {ms:List Int}{n:Nat}(hp:ms.Perm ((List.range n).map fun (i:Nat)=>(i:Int)))(hs:ms.Pairwise (·≤·)):ms=(List.range n).map fun (i:Nat)=>(i:Int):=by
 have hn:((List.range n).map fun (i:Nat)=>(i:Int)).Nodup:=by
  rw[List.Nodup,pairwise_map]
  exact nodup_range.imp fun h z=>h (by lia)
 have hlen:ms.length=n:=by rw[hp.length_eq];simp
 have hlt:ms.Pairwise (· < ·):=(hs.and (hp.nodup_iff.mpr hn)).imp fun⟨a,b⟩=>by lia
 have e:=qX (a:=0) hlt fun x hx=>by
  obtain⟨i,h1,rfl⟩:=mem_map.mp (hp.mem_iff.mp hx)
  have:=mem_range.mp h1
  lia
 rw[hlen] at e
 rw[e]
 exact map_congr_left fun i _=>by simp
theorem iC {rows:List (List (Int×Bool))}{i:Nat}{row:List (Int×Bool)}(e:rows[i]? = some row):(rows.take (i+1)).flatten=(rows.take i).flatten++row:=by
 rw[take_add_one,e];simp
theorem i0 (rows:List (List (Int×Bool)))(i:Nat):(rows.take i).flatten.length≤rows.flatten.length:=by
 conv=>rhs;rw[←take_append_drop i rows]
 rw[flatten_append,length_append];lia
theorem p5 (av:Int):∃ sh:Int,0<sh∧atI ([.int 2,.int 3,.int 8,.int 40]:List V) (av % 4)=some (.int sh):=by
 have h:av % 4=0∨av % 4=1∨av % 4=2∨av % 4=3:=by lia
 rcases h with h | h | h | h <;> rw[h]
 ·exact⟨2,by decide,rfl⟩
 ·exact⟨3,by decide,rfl⟩
 ·exact⟨8,by decide,rfl⟩
 ·exact⟨40,by decide,rfl⟩
theorem m7 {ps:List (Int×Int×Bool)}{os:List Nat}(h:os.Perm (List.range ps.length)):(os.map fun k=>bu (ps.getD k (0,0,false))).Perm (ps.map bu):=by
 refine (h.map _).trans (.of_eq ?_)
 apply ext_getElem?
 intro i
 rw[getElem?_map,getElem?_map]
 by_cases hi:i<ps.length
 ·rw[getElem?_range hi,getElem?_eq_getElem hi]
  simp[getD_eq_getElem?_getD,getElem?_eq_getElem hi]
 ·rw[getElem?_eq_none (by simp;lia),getElem?_eq_none (by lia)];rfl
end L2
namespace DP
open PySem PySem.Spec
theorem lQ:typeLookup (.type "list") "keys" = pure none:=by rw[typeLookup_type,builtinLookup_eq_fast];kernel_rfl
section
variable {prog:Program}{w:World}{A:Around}{E:Value→Shared→Prop}
theorem oZ {s:Shared}{a:Addr}{xs:Array Value}{k:Nat}{sl:Array (Option Value)}{Q:Option Value→Shared→Prop}
 (hx:s.heap.get? a=some { cls:=.type "list",dict:=none,data:=.seq xs k,slots:=sl }) (hA:A.handled=none)
 (h:∀ h' tk,(∀ b o,s.heap.get? b=some o→h'.get? b=some o)→Q none { s with heap:=h',toks:=tk }) :
 wpAny (model prog w) A (getAttr? (.ref a) "keys") Q E s:=by
 obtain⟨hp,g,d,tk,os⟩:=s
 have hT:∀ tk',(⟨hp,g,d,tk',os⟩:Shared).TypeIs (.ref a) "list" :=fun _=>⟨_,hx,rfl⟩
 have f1:=sub_AttributeError
 have f3:=F.slot_list_getattribute.lookup
 have f4:=F.slot_list_getattribute.bind (.ref a)
 have f5:=am_list_getattr_none
 unfold getAttr? getAttrBy? getAttrBy
 repeat (any_goals (first | assumption | exact hT _ | ((with_reducible show wpAny _ _ (call (Value.builtin "list.__getattribute__") _ _) _ _ _);refine call_meets F.slot_list_getattribute (hT _) am_entry_list_getattribute (F.args_list_getattribute_2 _ _) (meets_getattribute_miss_list a xs k sl "keys" _ lQ (by decide +kernel) (by decide +kernel)) ⟨hx,hA,fun h' tk' e hx'=>?_⟩) | wp_step))
 obtain⟨t',u',he⟩:=hx'.there
 show wpAny _ _ (getattributeRaised _ _ _ _ _ _ _) _ _ _
 unfold getattributeRaised
 repeat (any_goals (first | assumption | wp_step))
 exact h _ _ hx'.of.keeps
theorem bL:plainId "dict.update.loop" = true:=by decide +kernel
theorem eG:entryFor table "dict.update.loop" = some Builtin.«dict.update.loop»:=entryFor_of_tree (by kernel_rfl)
theorem pM {K:Type}[DecidableEq K]{knd:KeyKind prog w K}{R:Result→Shared→Prop}{d it l:Addr}{items:Array Value}{prs:List (K×Value)}(hh:A.handled=none)(hdi:d≠it)(hdl:d≠l)(hli:l≠it)(hlen:prs.length=items.size)(hz:prs.length≤sizeLine) :
 ∀ (k i:Nat) (s:Shared),items.size-i=k→i≤items.size→s.heap.IsListIter it l i→s.heap.IsList l items →
   (∀ (j:Nat) v kv,items[j]? = some v→prs[j]? = some kv→∃ p key,v=.ref p∧knd.is kv.1 key=true∧p≠d∧p≠it∧s.heap.IsTuple p #[key,kv.2]) →
   s.heap.DictOf knd d (merged [] (prs.take i)) →
   (∀ h' tk,h'.DictOf knd d (merged [] prs)→(∀ b o,b≠d→b≠it→s.heap.get? b=some o→h'.get? b=some o)→R (.ok (.ret .none)) { s with heap:=h',toks:=tk }) →
   codeAny (model prog w) A (.builtin "dict.update.loop" ⟨[.ref d,.ref it,rawInt i,.none],[]⟩) R s:=by
 intro k
 induction k with
 | zero =>
   intro i s hk hi hit hl hp hd hR
   have hin:i=items.size:=by lia
   subst hin
   refine codeAny_builtin eG ?_
   rw[Around.under_plainId bL _]
   show wpAny _ A.in1 (pyNext (.ref it) >>= _) _ _ s
   refine wpAny_bind (wpAny_pyNext_list_end hh hit hl (by simp) fun h' he=>?_)
   show wpAny _ _ (Builtin.Dict.addKeywords d [] >>= _) _ _ _
   refine wpAny_bind (wpAny_pure (wpAny_pure (hR h' _ ?_ fun b o _ hb e=>he b o hb e)))
   rw[←hlen,take_length] at hd
   exact hd.extBut he hdi
 | succ k ih =>
   intro i s hk hi hit hl hp hd hR
   have hlt:i<items.size:=by lia
   obtain⟨kv,hkv⟩:∃ kv,prs[i]? = some kv:=⟨prs[i]'(by lia),getElem?_eq_getElem _⟩
   obtain⟨p,key,ev,hkey,hpd,hpi,hpt⟩:=hp i items[i] kv (by simp[hlt]) hkv
   refine codeAny_builtin eG ?_
   rw[Around.under_plainId bL _]
   show wpAny _ A.in1 (pyNext (.ref it) >>= _) _ _ s
   refine wpAny_bind (wpAny_pyNext_list_item hit hl (x:=items[i]) (by simp[hlt]) fun h' hit' hs'=>?_)
   rw[ev]
   obtain⟨ot,hot,hct,nt,hdt⟩:=id hpt
   have hot':h'.get? p=some ot:=(hs'.2 p hpi).trans hot
   have hT:Shared.TypeIs { s with heap:=h' } (.ref p) "tuple" :=⟨_,hot',hct⟩
   show wpAny _ A.in1 (holding [Value.ref p] _ >>= _) _ _ _
   refine wpAny_bind (wpAny_holding ?_)
   refine wpAny_bind (wpAny_tryCatch ?_)
   unfold Builtin.Dict.pairItems
   refine wpAny_bind (wpAny_typeOf hT ?_)
   rw[if_pos (by decide)]
   refine wpAny_bind (wpAny_seqItems hot' hdt (wpAny_pure ?_))
   show wpAny _ A.in1 (holding [key,kv.2] (dictSet d key kv.2)) _ _ _
   have hd':h'.DictOf knd d (merged [] (prs.take i)):=hd.extBut hs'.extBut hdi
   have hm:(merged [] (prs.take i)).length≤sizeLine:=by
    have e1:=merged_length_le ([]:List (K×Value)) (prs.take i)
    have e2:(prs.take i).length≤prs.length:=by rw[length_take];lia
    rw[length_nil] at e1
    lia
   refine wpAny_holding (wpAny_dictSet_pairs (hsz:=hm) hkey hd' fun h'' hd'' hs''=>?_)
   have kp:∀ b o,b≠d→b≠it→s.heap.get? b=some o→h''.get? b=some o:=fun b o h1 h2 e=>(hs''.2 b h1).trans ((hs'.2 b h2).trans e)
   refine wpAny_pure ⟨plainId_quiet bL _,?_⟩
   have e1:rawInt ((i:Int)+1)=rawInt ((i+1:Nat):Int):=rfl
   refine ih (i+1) { s with heap:=h'',toks:=s.toks+1 } (by lia) hlt ?_ ?_ (fun j v kv' h1 h2=>?_) ?_ fun h3 tk hd3 k3=>hR h3 tk hd3 fun b o h1 h2 e=>k3 b o h1 h2 (kp b o h1 h2 e)
   ·obtain⟨oi,hoi,r⟩:=hit'
    exact⟨oi,(hs''.2 it (Ne.symm hdi)).trans hoi,r⟩
   ·obtain⟨ol,hol,r⟩:=hl
    exact⟨ol,kp l ol (Ne.symm hdl) hli hol,r⟩
   ·obtain⟨p',key',a1,a2,a3,a4,a5⟩:=hp j v kv' h1 h2
    obtain⟨o',ho',r⟩:=a5
    exact⟨p',key',a1,a2,a3,a4,o',kp p' o' a3 a4 ho',r⟩
   ·rw[merged_take_succ [] prs i kv hkv]
    exact hd''
theorem io:mroOf (.type "dict")=pure [.type "dict",.type "object"]:=by rw[mroOf_type];kernel_rfl
theorem gB:typeLookup (.type "dict") "__new__" = pure (some (.builtin "dict.__new__")):=by rw[typeLookup_type,builtinLookup_eq_fast];kernel_rfl
theorem mi:TypeCalled "dict" "dict.__new__" "dict.__init__" :=
 ⟨by decide +kernel,by decide +kernel,⟨_,_,io⟩,madeBy_type io gB (by decide +kernel),by decide +kernel,by rw[isSubtype_type];kernel_rfl,F.slot_dict_init⟩
theorem iT (a:Value):checkTypeCall "dict" ⟨[a],[]⟩=pure ():=by kernel_rfl
theorem kh (a:Value):checkBuiltinCall "dict.__new__" ⟨[.type "dict",a],[]⟩=pure ():=by kernel_rfl
theorem iG:entryFor table "dict.__new__" = some Builtin.«dict.__new__»:=entryFor_of_tree (by kernel_rfl)
theorem hU:plainId "dict.__new__" = true:=by decide +kernel
theorem pR:isSubtype (.type "dict") (.type "dict")=pure true:=by rw[isSubtype_type];kernel_rfl
theorem i6 {s:Shared}(a:Value){Q₁:Value→Shared→Prop}(h:Q₁ (.ref s.heap.objs.size) { s with heap:=s.heap.push { cls:=.type "dict",data:=.dict #[] } }) :
 codeAny (model prog w) A (.call (.builtin "dict.__new__") ⟨[.type "dict",a],[]⟩) (wants Q₁ E) s:=by
 refine codeAny_call_builtin hU iG (wpAny_of_eq (kh a) ?_)
 have hsub:=pR
 have hmro:=io
 obtain⟨hp,g,d,tk,os⟩:=s
 unfold Builtin.«dict.__new__»
 wp_walk
 exact h
theorem call_dict {s:Shared}{K:Type}[DecidableEq K]{knd:KeyKind prog w K}{l:Addr}{items:Array Value}{prs:List (K×Value)}{nl:Nat}{sl:Array (Option Value)}{Q:Value→Shared→Prop}(hh:A.handled=none)
 (hl:s.heap.get? l=some { cls:=.type "list",dict:=none,data:=.seq items nl,slots:=sl }) (hlen:prs.length=items.size) (hz:prs.length≤sizeLine)
 (hp:∀ (j:Nat) v kv,items[j]? = some v→prs[j]? = some kv→∃ p key,v=.ref p∧knd.is kv.1 key=true∧s.heap.IsTuple p #[key,kv.2])
 (h:∀ h' tk,h'.DictOf knd s.heap.objs.size (merged [] prs)→(∀ b o,s.heap.get? b=some o→h'.get? b=some o)→Q (.ref s.heap.objs.size) { s with heap:=h',toks:=tk }) :
 wpAny (model prog w) A (call (.type "dict") [.ref l]) Q E s:=by
 refine callType_codes (Q₁:=fun obj s₁=>obj=.ref s.heap.objs.size∧s₁={ s with heap:=s.heap.push { cls:=.type "dict",data:=.dict #[] } }) mi (iT _) F.entry_dict_init (i6 _ ⟨rfl,rfl⟩) ?_
 rintro obj s₁ ⟨rfl,rfl⟩
 have hnew:(s.heap.push { cls:=.type "dict",data:=.dict #[] }).DictOf knd s.heap.objs.size []:=Heap.DictOf.new s.heap
 refine⟨hnew.typeIs,F.args_dict_init_2 _ _,?_⟩
 have hl':(s.heap.push { cls:=.type "dict",data:=.dict #[] }).get? l=some { cls:=.type "list",dict:=none,data:=.seq items nl,slots:=sl }:=Heap.get?_push_of_some _ hl
 have hT:Shared.TypeIs { s with heap:=s.heap.push { cls:=.type "dict",data:=.dict #[] } } (.ref l) "list" :=⟨_,hl',rfl⟩
 unfold Builtin.«dict.__init__»
 refine wpAny_bind ?_
 unfold Builtin.Dict.selfAndRest
 refine wpAny_bind (wpAny_notOrdered_dict hnew.typeIs ?_)
 show wpAny _ _ (pure (s.heap.objs.size,[Value.ref l])) _ _ _
 refine wpAny_pure ?_
 show wpAny _ _ (Builtin.Dict.updateFrom "dict.__init__" s.heap.objs.size (.ref l) [] .none) _ _ _
 unfold Builtin.Dict.updateFrom
 refine wpAny_bind (wpAny_typeOf hT ?_)
 rw[if_pos (by decide)]
 refine wpAny_bind (oZ hl' hh fun h1 tk1 k1=>?_)
 rw[if_pos (by decide)]
 refine wpAny_bind (wpAny_rule ?_)
 have hl1:h1.IsList l items:=⟨_,k1 _ _ hl',rfl,nl,rfl⟩
 refine wpAny_bind (wpAny_pyIter_list (s:={ s with heap:=h1,toks:=tk1 }) hl1 ?_)
 have hd1:h1.DictOf knd s.heap.objs.size []:=by
  obtain⟨o,es,ep,ho,r⟩:=hnew
  exact⟨o,es,ep,k1 _ _ ho,r⟩
 have hds:s.heap.objs.size<h1.objs.size:=by
  obtain⟨o,_,_,ho,_⟩:=hd1
  exact Heap.lt_size ho
 have hls:l<s.heap.objs.size:=Heap.lt_size hl
 have hk:∀ b o,s.heap.get? b=some o→(h1.push { cls:=.type "list_iterator",data:=.fields #[.ref l,.int 0 0] }).get? b=some o:=fun b o e=>Heap.get?_push_of_some _ (k1 b o (Heap.get?_push_of_some _ e))
 refine wpAny_pure ⟨plainId_quiet bL _,?_⟩
 refine pM (A:=A.in1) (knd:=knd) (items:=items) (prs:=prs) (l:=l) hh (Nat.ne_of_lt hds) (Nat.ne_of_gt hls) (Nat.ne_of_lt (Nat.lt_trans hls hds)) hlen hz items.size 0 _ rfl (Nat.zero_le _) ?_ ?_ (fun j v kv h2 h3=>?_) ?_ fun h2 tk2 hd2 k2=>?_
 ·exact⟨_,Heap.get?_push_size _ rfl,rfl,rfl⟩
 ·obtain⟨o,ho,r⟩:=hl1
  exact⟨o,Heap.get?_push_of_some _ ho,r⟩
 ·obtain⟨p,key,e1,e2,ot,e3,r⟩:=hp j v kv h2 h3
  have hps:=Heap.lt_size e3
  exact⟨p,key,e1,e2,Nat.ne_of_lt hps,Nat.ne_of_lt (Nat.lt_trans hps hds),ot,hk p ot e3,r⟩
 ·show (h1.push _).DictOf knd _ (merged [] ([]:List (K×Value)))
  exact hd1.push _
 ·exact⟨rfl,h h2 tk2 hd2 fun b o e=>k2 b o (Nat.ne_of_lt (Heap.lt_size e)) (Nat.ne_of_lt (Nat.lt_trans (Heap.lt_size e) hds)) (hk b o e)⟩
end
end DP
namespace L2
open PySem PySem.Spec PyProof.Rows
def ItS (lo st:Int)(n:Nat):It:=⟨fun i _=>i<n,fun i H x H'=>H'=H∧x=.int (lo+i*st),fun i _=>n≤i⟩
theorem kO {P:Program}{w:World}{K:PySem.W.Frag}{tg:Expr}(it:Addr)(lo st:Int)(n:Nat):nc P w K tg (ItS lo st n) [it] it (fun i h=>IsRangeIter h it (lo+(i:Nat)*st) ((n:Int)-(i:Nat)) st) where
 mem:=by simp
 obj:=fun i h st b hb=>by
  have e:b=it:=by simpa using hb
  subst e
  exact⟨_,st,fun v z=>by
   have z':Data.fields _=Data.cell v:=z
   cases z'⟩
 keep:=fun i h h' st k=>k it (by simp) _ st
 item:=by
  intro X hP hw hK hc i pins s σ H E I hf st' hg
  subst hP hw hK
  obtain⟨f0,f1,f2,f3,f4,f5⟩:=hf it (by simp)
  have W:=Walks.range (prog:=X.prog) (w:=X.w) (I.ok.hd hc) it lo st n
  refine W.item i s _ _ hg st' fun v h' tk hv st'' kk=>?_
  obtain⟨t,rfl⟩:=hv
  have I1:Inv X pins σ H { s with heap:=h',toks:=tk }:=I.turned (fun b o hb e=>kk b o (by simpa using hb) e) f0 f1 f3 f4 f5
  exact⟨_,rfl,qI (s:={ s with heap:=h',toks:=tk }) (n:="range_iterator") st'' rfl rfl (by decide) ⟨.int (lo+i*st),H,I1,⟨t,rfl⟩,⟨rfl,rfl⟩,st'',fun b hb=>(hf b hb).1⟩⟩
 done:=by
  intro X hP hw hK hc i pins s σ H E I hf st' hg
  subst hP hw hK
  obtain⟨f0,f1,f2,f3,f4,f5⟩:=hf it (by simp)
  exact wpAny_pyNext_range_end (I.ok.hd hc) st' (by have:n≤i:=hg;lia) fun h' eb=>⟨rfl,I.turned (t':=s.toks) (fun b o hb e=>eb b o hb e) f0 f1 f3 f4 f5⟩
 self:=fun _ _ _ _ _ st h=>wpAny_pyIter_rangeiter st h
section
variable {X:Cx}{tg:Expr}
def uv (ta:TA):TI:=fun σ H R=>ta σ H fun vs H1=>∃ i j:Int,vs=[.int i,.int j,.int 2]∧(-(2 ^ 61)≤i∧i<2 ^ 61∧-(2 ^ 61)≤j∧j<2 ^ 61)∧R (ItS i 2 ((j-i+1) / 2).toNat) H1
theorem fb (lo hi:Int):Builtin.Range.rangeSize lo hi 2=(((hi-lo+1) / 2).toNat:Nat):=by
 unfold Builtin.Range.rangeSize
 simp only[show (2:Int)>0 by decide,if_true]
 split <;> lia
theorem oB {lo hi:Int}(h1:-(2 ^ 61)≤lo)(h2:lo<2 ^ 61)(h3:-(2 ^ 61)≤hi)(h4:hi<2 ^ 61):Builtin.Range.small lo hi 2=true:=by
 have hn:=fb lo hi
 unfold Builtin.Range.small
 rw[hn]
 simp only[Builtin.Range.rangeFitsLong,Bool.and_eq_true,Bool.or_eq_true,decide_eq_true_eq,beq_iff_eq,show (2:Int)>0 by decide,if_true]
 lia
theorem oF {pins:List (Addr×Obj)}{σ:St}{H:Hp}{s:Shared}{R:It→Hp→Prop}{E:Value→Shared→Prop}{lo hi:Int}{t u v:Tok}{tk:Nat}(I:Inv X pins σ H s)(h1:-(2 ^ 61)≤lo)(h2:lo<2 ^ 61)(h3:-(2 ^ 61)≤hi)(h4:hi<2 ^ 61)
 (q:R (ItS lo 2 ((hi-lo+1) / 2).toNat) H):wpAny (model X.prog X.w) X.A (pyIter (.ref s.heap.objs.size)) (PIE X pins σ tg R) E { s with heap:=s.heap.push { cls:=.type "range",data:=.fields #[.int lo t,.int hi u,.int 2 v] },toks:=tk }:=by
 refine wpAny_pyIter_range (IsRange.new ..) (oB h1 h2 h3 h4) ?_
 have I1:Inv X pins σ H { s with heap:=s.heap.push { cls:=.type "range",data:=.fields #[.int lo t,.int hi u,.int 2 v] },toks:=tk }:=I.kept fun b o e=>Heap.get?_push_of_some _ e
 refine⟨(s.heap.push { cls:=.type "range",data:=.fields #[.int lo t,.int hi u,.int 2 v] }).objs.size,[(s.heap.push { cls:=.type "range",data:=.fields #[.int lo t,.int hi u,.int 2 v] }).objs.size],_,_,H,rfl,
  I1.kept (t':=tk) fun b o e=>Heap.get?_push_of_some _ e,kO _ lo 2 ((hi-lo+1) / 2).toNat,?_,fun b hb=>?_,q⟩
 ·have e1:lo+((0:Nat):Int)*2=lo:=by simp
  have e2:((((hi-lo+1) / 2).toNat:Nat):Int)-((0:Nat):Int)=Builtin.Range.rangeSize lo hi 2:=by rw[fb];lia
  show IsRangeIter _ _ (lo+((0:Nat):Int)*2) (((((hi-lo+1) / 2).toNat:Nat):Int)-((0:Nat):Int)) 2
  rw[e1,e2]
  exact Heap.get?_push_size _ rfl
 ·have e:b=(s.heap.push { cls:=.type "range",data:=.fields #[.int lo t,.int hi u,.int 2 v] }).objs.size:=by simpa using hb
  subst e
  exact I1.fpOk (Nat.le_refl _) (I1.hok.fresh (Nat.le_refl _))
theorem oH {a b c:Expr}{ta:TA}{p pos:Pos}(hg:Gl X "range")(hm:X.mg "range" = none)(ha:PA X [a,b,c] ta)(hs:starEach [a,b,c] X.env=[(false,eval a X.env),(false,eval b X.env),(false,eval c X.env)]:=by rfl)
 (hs2:starEach [b,c] X.env=[(false,eval b X.env),(false,eval c X.env)]:=by rfl) :
 PI X tg (.Call (.Name "range" p) [a,b,c] [] pos) (uv ta):=by
 intro pins s σ H R I h
 refine Call_ (dE I hg hm mj (PyProof.Rows.callWith_type1 (thn (ha pos pins s σ H _ I h) fun us s1 ⟨vs,H1,I1,r1,q1⟩=>?_) (by rw[hs,hs2]) (by rw[hs2];rfl)))
 obtain⟨i,j,e,⟨b1,b2,b3,b4⟩,q⟩:=q1
 subst e
 cases r1 with
 | cons r rr =>
   cases rr with
   | cons r' rr =>
     cases rr with
     | cons r'' rr =>
       cases rr
       obtain⟨t,rfl⟩:=r
       obtain⟨t',rfl⟩:=r'
       obtain⟨t'',rfl⟩:=r''
       exact call_range_3 (by decide) (oF I1 b1 b2 b3 b4 q) (.inl (PyProof.noPylong_small (by lia)))
theorem oW {lo st:Int}{n:Nat}{ix:List (Option Nat)}{g:TG}{tc:TT}{te:TE}{σ0:St}{H:Hp}{Q:VK}(Pv:Nat→St→Hp→List V→Prop)(h0:Pv 0 (eY σ0 ix) H [])(hl:∀ i σ H ys,i≤n→Pv i σ H ys→ys.length≤i)(hz:n≤sizeLine)
 (hs:∀ i σ H ys (N:St→Hp→List V→Prop),(∀ σ H ys,Pv (i+1) σ H ys→N σ H ys)→i<n→Pv i σ H ys→g (.int (lo+i*st)) σ H fun σ2 H2=>tc σ2 H2 fun b H3=>if b=true then te σ2 H3 fun v H4=>N σ2 H4 (ys++[v]) else N σ2 H3 ys)
 (hd:∀ σ H ys,Pv n σ H ys→∀ D H2,New H D (.lst ys) H2→Q (.ref D) H2):rg ix (ItS lo st n) g tc te σ0 H Q:=by
 refine⟨fun i m σ H ys=>m=n-i∧i≤n∧Pv i σ H ys,⟨n,by simp,Nat.zero_le _,h0⟩,?_⟩
 rintro i m σ H ys ⟨rfl,hi,p⟩
 have hy:=hl i σ H ys hi p
 by_cases hlt:i<n
 ·refine .inr ⟨hlt,by lia,fun x H' y=>?_⟩
  obtain⟨e,y⟩:=y
  subst e y
  exact hs i σ _ ys (fun σ H ys=>∃ m',m'<n-i∧(m'=n-(i+1)∧i+1≤n∧Pv (i+1) σ H ys)) (fun σ H ys q4=>⟨n-(i+1),by lia,rfl,hlt,q4⟩) hlt p
 ·have e:i=n:=by lia
  subst e
  exact .inl ⟨Nat.le_refl _,by lia,hd σ H ys p⟩
end
section
variable {X:Cx}
def uf (to te:TE):TE:=fun σ H Q=>to σ H fun x H1=>∃ l xs0,x=.ref l∧H1 l=some (.lst xs0)∧te σ H1 fun y H2=>∃ b xs zs,y=.ref b∧H2 l=some (.lst xs)∧H2 b=some (.lst zs)∧xs.length+zs.length≤sizeLine∧∀ H3,Chg H2 l (.lst (xs++zs)) H3→Q .non H3
theorem rD {o e:Expr}{to te:TE}{apos cpos:Pos}(ho:PE X o to)(he:PE X e te)
 (hbase:attributeBase o "extend" X.env (eval o X.env)=eval o X.env:=by rfl)
 (hfew:((backTo cpos (starEach [e] X.env)).all (fun x=>!x.1) && (backToKw cpos (keywordEach [] X.env)).all (fun x=>x.1.isSome)
  && decide ([e].length+([]:List Keyword).length+(if ([]:List Keyword).isEmpty then 0 else 1)<30))=true:=by rfl)
 (hline:(apos.endLine == cpos.line)=true:=by rfl) (hs:starEach [e] X.env=[(false,eval e X.env)]:=by rfl) :
 PE X (.Call (.Attribute o "extend" apos) [e] [] cpos) (uf to te):=by
 intro pins s σ H Q I h
 refine wpAny_Call_method_late hbase hfew hline rfl (thn (ho pins s σ H _ I h) fun v s1 ⟨x,H1,I1,r1,l,xs0,ex,hl,q1⟩=>?_)
 subst ex
 obtain⟨h1,h2⟩:=jQ (T:="list") I1 r1 (.inl ⟨rfl,xs0,SqL.of hl⟩)
 refine⟨"list","list.extend",PySem.F.plainAttrs_list,PySem.F.slot_list_extend,PySem.F.type_list_extend,h1,h2,?_⟩
 have hA:=(aa he ae hs:PA X [e] (kR te mD)) cpos pins s1 σ H1 (fun vs H2=>match vs with | [y]=>∃ b xs zs,y=.ref b∧H2 l=some (.lst xs)∧H2 b=some (.lst zs)∧xs.length+zs.length≤sizeLine∧∀ H3,Chg H2 l (.lst (xs++zs)) H3→Q .non H3 | _=>False) I1 q1
 rw[hs] at hA ⊢
 refine Calls.callWith_builtin rfl (Calls.evalArgs_plain ?_)
 refine thn hA fun us s2 ⟨vs,H2,I2,r2,q2⟩=>?_
 match vs,q2,r2 with
 | [y],⟨b,xs,zs,e0,e1,e2,e3,e4⟩,r2=>exact oT pins s2 σ H2 (.ref l) [y] v us Q I2 r1 r2 ⟨l,b,xs,zs,rfl,by rw[e0],e1,e2,e3,e4 _ .upd⟩
def t9 (to:TE):TE:=fun σ H Q=>to σ H fun x H1=>∃ l xs,x=.ref l∧H1 l=some (.lst xs)∧∀ H2,Chg H1 l (.lst xs.reverse) H2→Q .non H2
theorem rC {o:Expr}{to:TE}{apos cpos:Pos}(ho:PE X o to)(hbase:attributeBase o "reverse" X.env (eval o X.env)=eval o X.env:=by rfl)(hline:(apos.endLine == cpos.line)=true:=by rfl) :
 PE X (.Call (.Attribute o "reverse" apos) [] [] cpos) (t9 to):=by
 intro pins s σ H Q I h
 refine wpAny_Call_method0_late hbase hline (thn (ho pins s σ H _ I h) fun v s1 ⟨x,H1,I1,r1,l,xs,ex,hl,q1⟩=>?_)
 subst ex
 obtain⟨h1,h2⟩:=jQ (T:="list") I1 r1 (.inl ⟨rfl,xs,SqL.of hl⟩)
 exact⟨"list","list.reverse",PySem.F.plainAttrs_list,PySem.F.slot_list_reverse,PySem.F.type_list_reverse,h1,h2,Calls.callWith_builtin rfl (PySem.evalArgs_none (mV pins s1 σ H1 (.ref l) [] v [] Q I1 r1 .nil ⟨l,xs,rfl,rfl,hl,q1 _ .upd⟩))⟩
end
section
variable {X:Cx}
theorem sf:bootBuiltins "dict" = some (.type "dict"):=by decide +kernel
def sY:List V→Hp→VK→Prop:=fun xs H Q=>∃ (p:Addr) (es:List (Int×Int)),xs=[.ref p]∧Til H p es∧(es.map (·.1)).Nodup∧∀ d H2,New H d (.dK (kvE es)) H2→Q (.ref d) H2
theorem tQ (hc:X.calm=true):bQ X (.type "dict") sY:=by
 intro pins s σ H xs us Q I r h
 obtain⟨p,es,rfl,hT,hn,q⟩:=h
 obtain⟨u,rfl,ru⟩:=dL r
 cases ru
 obtain⟨ps,hp,hpl,hpe⟩:=hT
 obtain⟨z,its,n,rv,hl,e⟩:=I.lstM hp
 rw[length_map] at hl z
 have key:∀ (es:List (Int×Int)) (ps:List Addr),ps.length=es.length→(∀ (i:Nat) p x,ps[i]? = some p→es[i]? = some x→H p=some (.tup (scT x))) →
  ∃ vs:List (Key×Value),KV (kvE es) vs∧∀ (j:Nat) p kv,ps[j]? = some p→vs[j]? = some kv→∃ key,(aO X.prog X.w).is kv.1 key=true∧s.heap.IsTuple p #[key,kv.2]:=by
  intro es
  induction es with
  | nil=>exact fun ps _ _=>⟨[],.nil,fun j p kv _ e=>by simp at e⟩
  | cons x es ih =>
    intro ps h1 h2
    cases ps with
    | nil=>simp at h1
    | cons p ps =>
      obtain⟨vs,k1,k2⟩:=ih ps (by simpa using h1) fun i q y e1 e2=>h2 (i+1) q y (by simpa using e1) (by simpa using e2)
      obtain⟨_,its2,rv2,e2⟩:=(show aS X.prog X.w H s.heap p (.tup (scT x)) from I.hok p _ (h2 0 p x rfl rfl))
      obtain⟨u,v,rfl,ru,rv⟩:=rv2.two
      refine⟨(Sum.inl x.1,v) :: vs,.cons ⟨rfl,rv⟩ k1,fun j q kv e3 e4=>?_⟩
      cases j with
      | zero =>
        have z1:p=q:=by simpa using e3
        have z2:(Sum.inl x.1,v)=kv:=by simpa using e4
        subst z1 z2
        exact⟨u,fQ (k:=Sum.inl x.1) ru,e2⟩
      | succ j=>exact k2 j q kv (by simpa using e3) (by simpa using e4)
 obtain⟨vs,k1,k2⟩:=key es ps hpl hpe
 have hvl:vs.length=es.length:=by rw[←k1.length];unfold kvE;rw[length_map]
 have hkn:(vs.map (·.1)).Nodup:=by
  rw[←k1.keys]
  unfold kvE
  rw[map_map]
  have:(Prod.fst∘fun e:Int×Int=>((Sum.inl e.1:Key),V.int e.2))=(fun m=>(Sum.inl m:Key))∘(·.1):=rfl
  rw[this,←map_map,List.Nodup,pairwise_map]
  exact hn.imp fun h z=>h (by injection z)
 refine DP.call_dict (knd:=aO X.prog X.w) (prs:=vs) (I.ok.hd hc) e (by rw[size_toArray];lia) (by lia) (fun j v kv h1 h2=>?_) fun h' tk hd hk=>?_
 ·have h1':its[j]? = some v:=by rw[←h1];simp
  have hj:j<ps.length:=by have:=am h1';lia
  obtain⟨u,hu,ru⟩:=rv.get (i:=j) (x:=.ref ps[j]) (by rw[getElem?_map,getElem?_eq_getElem hj];rfl)
  rw[h1'] at hu
  cases hu
  cases ru
  obtain⟨key,a1,a2⟩:=k2 j ps[j] kv (getElem?_eq_getElem hj) h2
  exact⟨ps[j],key,rfl,a1,a2⟩
 ·rw[merged_nil_of_nodup vs hkn] at hd
  exact⟨.ref s.heap.objs.size,_,I.laid (a:=s.heap.objs.size) (o:=.dK (kvE es)) (t':=tk) (fun b q hq=>hk b q hq) (Nat.le_refl _) (ku (by unfold kvE;rw[length_map];lia) (beq_eq_false_iff_ne.mpr (Ne.symm (Nat.ne_of_lt I.big))) k1 hd),rfl,q _ _ (.upd I.fresh)⟩
end
end L2
namespace L2
open PySem PySem.Spec PyProof.Rows
def Pth (ts:List (Int×Int)):Int→List (Int×Bool)→Int→Prop
 | a,[],b=>a=b
 | a,st :: r,b=>(ah ts st).1=a∧Pth ts (ah ts st).2 r b
theorem Pth.app {ts:List (Int×Int)}:∀ {r:List (Int×Bool)} {a b c:Int} {r':List (Int×Bool)},Pth ts a r b→Pth ts b r' c→Pth ts a (r++r') c
 | [],a,b,c,r',h,h'=>by cases h;exact h'
 | st :: r,a,b,c,r',h,h'=>⟨h.1,Pth.app h.2 h'⟩
theorem Pth.cut {ts:List (Int×Int)}:∀ {r:List (Int×Bool)} {a c:Int} {r':List (Int×Bool)},Pth ts a (r++r') c→∃ b,Pth ts a r b∧Pth ts b r' c
 | [],a,c,r',h=>⟨a,rfl,h⟩
 | st :: r,a,c,r',h=>by
   obtain⟨b,h1,h2⟩:=Pth.cut (r:=r) h.2
   exact⟨b,⟨h.1,h1⟩,h2⟩
theorem Pth.snoc {ts:List (Int×Int)}{r:List (Int×Bool)}{a b:Int}{st:Int×Bool}(h:Pth ts a r b)(e:(ah ts st).1=b):Pth ts a (r++[st]) (ah ts st).2:=h.app ⟨e,rfl⟩
theorem Pth.noflaw {ts:List (Int×Int)}{r:List (Int×Bool)}{a b:Int}(h:Pth ts a r b)(hn:(r.map (·.1)).Nodup)(hi:∀ st∈r,inT ts st.1):dH ts r:=by
 intro j hj
 have e:r[j]? = some r[j]:=getElem?_eq_getElem hj
 refine tW e (hi _ (getElem_mem hj)) ?_ ?_
 ·intro hm
  obtain⟨st,h1,h2⟩:=mem_map.mp hm
  obtain⟨i,h3⟩:=mem_iff_getElem?.mp h1
  rw[getElem?_take] at h3
  split at h3
  ·rename_i hij
   have hi':i<r.length:=by lia
   rw[getElem?_eq_getElem hi'] at h3
   have h4:r[i]=st:=Option.some.inj h3
   rw[List.Nodup,pairwise_iff_getElem] at hn
   refine hn i j (by simpa using hi') (by simpa using hj) hij ?_
   rw[getElem_map,getElem_map,h4,h2]
  ·cases h3
 ·rintro⟨h0,hne⟩
  apply hne
  obtain⟨k,rfl⟩:∃ k,j=k+1:=⟨j-1,by lia⟩
  have hk:k<r.length:=by lia
  have e2:r=r.take k++(r[k] :: r[k+1] :: r.drop (k+2)):=by
   conv=>lhs;rw[←take_append_drop k r,drop_eq_getElem_cons hk,drop_eq_getElem_cons hj]
  rw[e2] at h
  obtain⟨c,_,h2⟩:=h.cut
  have:r.getD (k+1-1) (0,false)=r[k]:=by
   rw[getD_eq_getElem?_getD,Nat.add_sub_cancel,getElem?_eq_getElem hk];rfl
  rw[this]
  exact h2.2.1
def fj (X:List (Int×Bool))(L:List Int)(f:Int×Bool→Int):Int:=((X.filter fun x=>decide (x.1∉L)).map f).sum
theorem pL (X:List (Int×Bool))(f:Int×Bool→Int):fj X [] f=(X.map f).sum:=by
 unfold fj
 rw[List.filter_eq_self.mpr]
 intro x _
 simp
theorem pK {L:List Int}{f:Int×Bool→Int}{k:Int}:∀ {X:List (Int×Bool)},(∀ x∈X,x.1≠k)→fj X (L++[k]) f=fj X L f:=fun {X} h=>by
 unfold fj
 congr 2
 apply filter_congr
 intro x hx
 have:=h x hx
 apply decide_eq_decide.mpr
 simp[this]
theorem kM {L:List Int}{f:Int×Bool→Int}:∀ {X:List (Int×Bool)} {x:Int×Bool},(X.map (·.1)).Nodup→x∈X→x.1∉L→fj X (L++[x.1]) f=fj X L f-f x
 | y :: X,x,hn,hx,hL=>by
   rw[map_cons,nodup_cons] at hn
   rcases mem_cons.mp hx with e | e
   ·subst e
    have off:fj X (L++[x.1]) f=fj X L f:=pK fun z hz e=>hn.1 (mem_map.mpr ⟨z,hz,e⟩)
    unfold fj at off ⊢
    rw[filter_cons,if_neg (by simp),filter_cons,if_pos (by simpa using hL),map_cons,sum_cons,off]
    lia
   ·have ih:=kM (f:=f) hn.2 e hL
    have hne:y.1≠x.1:=fun z=>hn.1 (mem_map.mpr ⟨x,e,z.symm⟩)
    unfold fj at ih ⊢
    rw[filter_cons,filter_cons]
    by_cases c:y.1∈L
    ·rw[if_neg (by simp[c]),if_neg (by simp[c]),ih]
    ·rw[if_pos (by simp[c,hne]),if_pos (by simp[c]),map_cons,map_cons,sum_cons,sum_cons,ih]
     lia
theorem ow {X:List (Int×Bool)}{L:List Int}{f:Int×Bool→Int}(h:∀ x∈X,x.1∉L→f x=0):fj X L f=0:=by
 unfold fj
 have:∀ Y:List (Int×Bool),(∀ y∈Y,f y=0)→(Y.map f).sum=0:=by
  intro Y
  induction Y with
  | nil=>intro _;rfl
  | cons y Y ih =>
    intro k
    rw[map_cons,sum_cons,k y (by simp),ih fun z hz=>k z (by simp[hz])]
    rfl
 refine this _ fun y hy=>?_
 obtain⟨h1,h2⟩:=mem_filter.mp hy
 exact h y h1 (of_decide_eq_true h2)
def iv (a m:Int):Int:=if a=m then 1 else 0
theorem rV (a:Int):iv a a=1:=if_pos rfl
theorem qC {a m:Int}(h:a≠m):iv a m=0:=if_neg h
theorem lT (a m:Int):iv a m=0∨iv a m=1:=by unfold iv;by_cases h:a=m <;> simp[h]
theorem uu {a m:Int}(h:iv a m=1):a=m:=by
 apply Classical.byContradiction
 intro c
 rw[qC c] at h
 cases h
def ja (ts:List (Int×Int))(L:List Int)(m:Int):Prop:=∀ st:Int×Bool,inT ts st.1→(ah ts st).1=m→st.1∈L
structure Bal (ts:List (Int×Int))(S:List (Int×Bool))(B:List Int→Int→Int→Prop):Prop where
 go:∀ {L c b st},B L c b→st∈S→st.1∉L→(ah ts st).1=c→B (L++[st.1]) (ah ts st).2 b
 stuck:∀ {L c b},B L c b→(∀ st∈S,(ah ts st).1=c→st.1∈L)→c=b∧ja ts L c
 back:∀ {L a},B L a a→∀ b,B L b b
 ins:∀ st∈S,inT ts st.1
structure WI (ts:List (Int×Int))(S:List (Int×Bool))(B:List Int→Int→Int→Prop)(s t:Int)(L:List Int)(path row:List (Int×Bool))(cur b:Int):Prop where
 pth:Pth ts s path cur
 rest:Pth ts b row.reverse t
 once:((path++row).map (·.1)).Nodup
 laid:∀ n,n∈L↔n∈(path++row).map (·.1)
 lnod:L.Nodup
 insS:∀ st∈path++row,st∈S
 bal:B L cur b
 dead:∀ st∈row,ja ts L (ah ts st).2
section
variable {ts:List (Int×Int)}{S:List (Int×Bool)}{B:List Int→Int→Int→Prop}{s t:Int}{L:List Int}{path row:List (Int×Bool)}{cur b:Int}
theorem ja.more {L L':List Int}{m:Int}(h:ja ts L m)(k:∀ x∈L,x∈L'):ja ts L' m:=fun st h1 h2=>k _ (h st h1 h2)
theorem WI.init (h:B [] s t):WI ts S B s t [] [] [] s t:=⟨rfl,rfl,nodup_nil,fun n=>by simp,nodup_nil,fun st h=>by simp at h,h,fun st h=>by simp at h⟩
theorem WI.go (w:WI ts S B s t L path row cur b)(hB:Bal ts S B){st:Int×Bool}(hS:st∈S)(hL:st.1∉L)(hc:(ah ts st).1=cur):WI ts S B s t (L++[st.1]) (path++[st]) row (ah ts st).2 b:=by
 have hn:st.1∉(path++row).map (·.1):=fun z=>hL ((w.laid _).mpr z)
 have pm:((path++[st]++row).map (·.1)).Perm (st.1 :: (path++row).map (·.1)):=by
  rw[append_assoc,←map_cons (f:=fun x:Int×Bool=>x.1)]
  exact List.perm_middle.map _
 refine⟨w.pth.snoc hc,w.rest,?_,fun n=>?_,?_,fun x hx=>?_,hB.go w.bal hS hL hc,fun x hx=>(w.dead x hx).more fun y hy=>mem_append_left _ hy⟩
 ·rw[pm.nodup_iff,nodup_cons]
  exact⟨hn,w.once⟩
 ·rw[pm.mem_iff,mem_append,w.laid n,mem_singleton,mem_cons]
  exact Or.comm
 ·rw[nodup_append]
  exact⟨w.lnod,by simp,fun x hx y hy e=>hL (by rw[←mem_singleton.mp hy,←e];exact hx)⟩
 ·simp only[mem_append,mem_singleton] at hx
  rcases hx with (hx | hx) | hx
  ·exact w.insS x (mem_append_left _ hx)
  ·rw[hx];exact hS
  ·exact w.insS x (mem_append_right _ hx)
theorem WI.pop {p0:List (Int×Bool)}{p:Int×Bool}(w:WI ts S B s t L (p0++[p]) row cur b)(hB:Bal ts S B)(hs:∀ st∈S,(ah ts st).1=cur→st.1∈L):WI ts S B s t L p0 (row++[p]) (ah ts p).1 (ah ts p).1:=by
 obtain⟨e,hd⟩:=hB.stuck w.bal hs
 subst e
 obtain⟨c,h1,h2⟩:=w.pth.cut
 have h3:(ah ts p).1=c:=h2.1
 have h4:(ah ts p).2=cur:=h2.2
 have pm:(p0++(row++[p])).Perm (p0++[p]++row):=by
  rw[append_assoc]
  exact List.Perm.append_left _ List.perm_append_comm
 refine⟨by rw[h3];exact h1,?_,?_,fun n=>?_,w.lnod,fun x hx=>w.insS x (pm.mem_iff.mp hx),hB.back w.bal _,fun x hx=>?_⟩
 ·rw[List.reverse_append]
  exact⟨rfl,by rw[h4];exact w.rest⟩
 ·rw[(pm.map _).nodup_iff]
  exact w.once
 ·rw[(pm.map _).mem_iff]
  exact w.laid n
 ·rcases mem_append.mp hx with hx | hx
  ·exact w.dead x hx
  ·rw[mem_singleton.mp hx,h4]
   exact hd
theorem WI.len (w:WI ts S B s t L path row cur b)(hB:Bal ts S B):L.length≤ts.length:=by
 have h1:∀ x∈L,x∈(List.range ts.length).map fun (i:Nat)=>(i:Int):=fun x hx=>by
  obtain⟨st,h2,h3⟩:=mem_map.mp ((w.laid x).mp hx)
  have h4:=hB.ins st (w.insS st h2)
  rw[h3] at h4
  refine mem_map.mpr ⟨x.toNat,mem_range.mpr ?_,?_⟩
  ·have:=h4.1;have:=h4.2;lia
  ·have:=h4.1;lia
 have h2:=aD w.lnod h1
 rwa [length_map,length_range] at h2
theorem cR {ts:List (Int×Int)}(st:Int×Bool):ah ts (st.1,!st.2)=((ah ts st).2,(ah ts st).1):=by
 unfold ah dN
 cases st.2 <;> rfl
theorem WI.all (w:WI ts S B s t L [] row cur b)(hB:Bal ts S B)(hs:∀ st∈S,(ah ts st).1=cur→st.1∈L)(hc:∀ x∈ts,aq ts s x.1) :
 Pth ts s row.reverse t∧dH ts row.reverse∧(row.reverse.map (·.1)).Perm ((List.range ts.length).map fun (i:Nat)=>(i:Int))∧∀ st∈row.reverse,st∈S:=by
 have e0:s=cur:=w.pth
 obtain⟨e1,hd⟩:=hB.stuck w.bal hs
 subst e1 e0
 have hP:Pth ts s row.reverse t:=w.rest
 have lef:∀ {r:List (Int×Bool)} {a b:Int},Pth ts a r b→∀ st∈r,(ah ts st).1=a∨∃ st'∈r,(ah ts st).1=(ah ts st').2:=by
  intro r
  induction r with
  | nil=>intro a b _ st h;cases h
  | cons y r ih =>
    intro a b h st hst
    rcases mem_cons.mp hst with z | z
    ·rw[z];exact .inl h.1
    ·rcases ih h.2 st z with k | ⟨st',k1,k2⟩
     ·exact .inr ⟨y,by simp,k⟩
     ·exact .inr ⟨st',by simp[k1],k2⟩
 have dl:∀ st∈row,ja ts L (ah ts st).1:=fun st hst=>by
  rcases lef hP st (by simpa using hst) with k | ⟨st',k1,k2⟩
  ·rw[k];exact hd
  ·rw[k2];exact w.dead st' (by simpa using k1)
 have mk:∀ st:Int×Bool,inT ts st.1→ja ts L (ah ts st).1→ja ts L (ah ts st).2:=fun st hi hD=>by
  have h1:=hD st hi rfl
  obtain⟨x,h2,h3⟩:=mem_map.mp ((w.laid _).mp h1)
  have h2':x∈row:=by simpa using h2
  by_cases c:x.2=st.2
  ·have:x=st:=Prod.ext h3 c
   rw[←this];exact w.dead x h2'
  ·have:x=(st.1,!st.2):=Prod.ext h3 (by cases hx:x.2 <;> cases hs:st.2 <;> simp_all)
   have h4:=dl x h2'
   rw[this,cR] at h4
   exact h4
 have shut:mo ts (ja ts L):=fun x hx=>by
  obtain⟨i,hi⟩:=mem_iff_getElem?.mp hx
  have hlt:=am hi
  have hf:ah ts ((i:Int),false)=x:=by
   unfold ah dN
   simp[getD_eq_getElem?_getD,hi]
  have hin:inT ts ((i:Int),false).1:=⟨by show (0:Int)≤i;lia,by show (i:Int)<_;lia⟩
  constructor
  ·intro h
   have:=mk (i,false) hin (by rw[hf];exact h)
   rwa [hf] at this
  ·intro h
   have h5:=mk (i,true) hin (by rw[show ((i:Int),true)=(((i:Int),false).1,!((i:Int),false).2) from rfl,cR,hf];exact h)
   rwa [show ((i:Int),true)=(((i:Int),false).1,!((i:Int),false).2) from rfl,cR,hf] at h5
 have laid:∀ i,i<ts.length→(i:Int)∈L:=fun i hi=>by
  have hD:=hc ts[i] (getElem_mem hi) (ja ts L) hd shut
  refine hD ((i:Int),false) ⟨by show (0:Int)≤i;lia,by show (i:Int)<_;lia⟩ ?_
  unfold ah dN
  simp[getD_eq_getElem?_getD,getElem?_eq_getElem hi]
 have on:(row.map (·.1)).Nodup:=by simpa using w.once
 have ins:∀ st∈row,inT ts st.1:=fun st h=>hB.ins st (w.insS st (by simpa using h))
 have onr:(row.reverse.map (·.1)).Nodup:=by rw[map_reverse];exact ((reverse_perm _).nodup_iff).mpr on
 refine⟨hP,hP.noflaw onr fun st h=>ins st (by simpa using h),?_,fun st h=>w.insS st (by simpa using h)⟩
 have hr:((List.range ts.length).map fun (i:Nat)=>(i:Int)).Nodup:=by
  rw[List.Nodup,pairwise_map]
  exact nodup_range.imp fun h z=>h (by lia)
 rw[List.perm_ext_iff_of_nodup onr hr]
 intro x
 constructor
 ·intro hx
  obtain⟨st,h1,rfl⟩:=mem_map.mp hx
  have h2:=ins st (by simpa using h1)
  exact mem_map.mpr ⟨st.1.toNat,mem_range.mpr (by have:=h2.1;have:=h2.2;lia),by have:=h2.1;lia⟩
 ·intro hx
  obtain⟨i,h1,rfl⟩:=mem_map.mp hx
  have h2:=(w.laid _).mp (laid i (mem_range.mp h1))
  rw[map_reverse,mem_reverse]
  simpa using h2
end
def fe (n:Nat):List (Int×Bool):=(List.range n).flatMap fun (i:Nat)=>[((i:Int),true),((i:Int),false)]
def jS (n:Nat):List (Int×Bool):=(List.range n).map fun (i:Nat)=>((i:Int),false)
theorem dr {n:Nat}{st:Int×Bool}:st∈fe n↔0≤st.1∧st.1<n:=by
 unfold fe
 rw[mem_flatMap]
 constructor
 ·rintro⟨i,h1,h2⟩
  have:=mem_range.mp h1
  simp at h2
  rcases h2 with h | h <;> rw[h] <;> constructor <;> simp <;> assumption
 ·rintro⟨h1,h2⟩
  refine⟨st.1.toNat,mem_range.mpr (by lia),?_⟩
  have e:((st.1.toNat:Nat):Int)=st.1:=by lia
  rw[e]
  obtain⟨a,c⟩:=st
  cases c <;> simp
theorem kS {n:Nat}{st:Int×Bool}:st∈jS n↔0≤st.1∧st.1<n∧st.2=false:=by
 unfold jS
 rw[mem_map]
 constructor
 ·rintro⟨i,h1,h2⟩
  have:=mem_range.mp h1
  rw[←h2]
  refine⟨by show (0:Int)≤i;lia,by show (i:Int)<n;lia,rfl⟩
 ·rintro⟨h1,h2,h3⟩
  exact⟨st.1.toNat,mem_range.mpr (by lia),Prod.ext (by show ((st.1.toNat:Nat):Int)=_;lia) h3.symm⟩
theorem mF (n:Nat):((jS n).map (·.1)).Nodup:=by
 unfold jS
 rw[map_map,List.Nodup,pairwise_map]
 exact nodup_range.imp fun {a b:Nat} (h:a≠b) (z:(a:Int)=b)=>h (by lia)
def dO (ts:List (Int×Int))(m:Int)(st:Int×Bool):Int:=iv (ah ts st).1 m+iv (ah ts st).2 m
def t0 (ts:List (Int×Int))(L:List Int)(c b:Int):Prop:=∀ m,fj (jS ts.length) L (dO ts m) % 2=(iv c m+iv b m) % 2
theorem uD (ts:List (Int×Int)):Bal ts (fe ts.length) (t0 ts):=by
 have sw:∀ m (st:Int×Bool),dO ts m (st.1,false)=dO ts m st:=fun m st=>by
  obtain⟨a,c⟩:=st
  cases c with
  | false=>rfl
  | true =>
    have:=cR (ts:=ts) (a,true)
    unfold dO
    show iv (ah ts (a,!true)).1 m+iv (ah ts (a,!true)).2 m=_
    rw[this]
    exact Int.add_comm _ _
 refine⟨fun {L c b st} h hS hL hc m=>?_,fun {L c b} h hs=>?_,fun {L a} h b m=>?_,fun st h=>dr.mp h⟩
 ·have h1:=h m
  have hin:=dr.mp hS
  have h2:=kM (f:=dO ts m) (mF ts.length) (x:=(st.1,false)) (kS.mpr ⟨hin.1,hin.2,rfl⟩) hL
  rw[h2,sw]
  unfold dO at h1 ⊢
  rw[hc]
  lia
 ·have hz:fj (jS ts.length) L (dO ts c)=0:=ow fun x hx hL=>by
   have hin:=kS.mp hx
   unfold dO
   rw[qC,qC]
   ·rfl
   ·intro z
    exact hL (hs (x.1,!x.2) (dr.mpr ⟨hin.1,hin.2.1⟩) (by rw[cR];exact z))
   ·intro z
    exact hL (hs x (dr.mpr ⟨hin.1,hin.2.1⟩) z)
  have h1:=h c
  rw[hz,rV] at h1
  have h2:=lT b c
  exact⟨(uu (a:=b) (m:=c) (by lia)).symm,fun st hi hf=>hs st (dr.mpr hi) hf⟩
 ·have h1:=h m
  have:=lT b m
  have:=lT a m
  rw[h1]
  lia
end L2
namespace L2
open PySem PySem.Spec PyProof.Rows
def jl (e:List Int):List (Int×Int):=(List.range (e.length / 2-1)).map fun (i:Nat)=>(e.getD (2*i+1) 0,e.getD (2*i+2) 0)
theorem qz (x y:Int):jl [x,y]=[]:=by simp[jl]
theorem gQ (x y z:Int)(r:List Int)(h:r≠[]):jl (x :: y :: z :: r)=(y,z) :: jl (z :: r):=by
 unfold jl
 have hr:0<r.length:=List.length_pos_iff.mpr h
 have e:(x :: y :: z :: r).length / 2-1=((z :: r).length / 2-1)+1:=by simp only[length_cons];lia
 rw[e,List.range_succ_eq_map,map_cons,map_map]
 congr 1
theorem qA (e:List Int):(jl e).length=e.length / 2-1:=by unfold jl;simp
theorem bB (a m:Int)(xs:List Int):(((a :: xs).count m:Nat):Int)=iv a m+(xs.count m:Nat):=by
 rw[count_cons]
 unfold iv
 by_cases h:a=m <;> simp[h] <;> lia
theorem lS (m:Int):∀ {e:List Int} {a b:Int},e.length % 2=0→e.head? = some a→e.getLast? = some b→(((flat (jl e)).count m:Nat):Int)+iv a m+iv b m=(e.count m:Nat)
 | [],_,_,_,h,_=>by cases h
 | [x],_,_,h,_,_=>by simp at h
 | [x,y],a,b,_,h1,h2=>by
   have e1:x=a:=by simpa using h1
   have e2:y=b:=by simpa using h2
   subst e1 e2
   rw[qz,bB,bB]
   simp[flat]
 | [x,y,z],_,_,h,_,_=>by simp at h
 | x :: y :: z :: w :: r,a,b,h,h1,h2=>by
   have e1:x=a:=by simpa using h1
   subst e1
   have ih:=lS m (e:=z :: w :: r) (a:=z) (b:=b) (by simp only[length_cons] at h ⊢;lia) rfl (by rw[←h2];simp[getLast?_cons_cons])
   rw[gQ _ _ _ _ (by simp)]
   show (((y :: z :: flat (jl (z :: w :: r))).count m:Nat):Int)+_+_=_
   rw[bB,bB,bB,bB]
   lia
theorem qB:∀ {A B:List Int} {a b:Int},A.length % 2=0→B.length % 2=0→A.getLast? = some a→B.head? = some b→jl (A++B)=jl A++(a,b) :: jl B
 | [],_,_,_,_,_,h,_=>by cases h
 | [x],_,_,_,h,_,_,_=>by simp at h
 | [x,y],B,a,b,_,hB,h1,h2=>by
   have e1:y=a:=by simpa using h1
   subst e1
   cases B with
   | nil=>cases h2
   | cons c B =>
     have e2:c=b:=by simpa using h2
     subst e2
     show jl (x :: y :: c :: B)=_
     rw[gQ _ _ _ _ (by rintro rfl;simp at hB),qz]
     rfl
 | [x,y,z],_,_,_,h,_,_,_=>by simp at h
 | x :: y :: z :: w :: A,B,a,b,h,hB,h1,h2=>by
   have ih:=qB (A:=z :: w :: A) (B:=B) (a:=a) (b:=b) (by simp only[length_cons] at h ⊢;lia) hB (by rw[←h1];simp[getLast?_cons_cons]) h2
   show jl (x :: y :: z :: (w :: A++B))=_
   rw[gQ _ _ _ _ (by simp),gQ _ _ _ _ (by simp)]
   show (y,z) :: jl (z :: w :: A++B)=_
   rw[ih]
   rfl
theorem tK {e:List Int}{x:Int×Int}(h:x∈jl e):x.1∈e∧x.2∈e:=by
 unfold jl at h
 obtain⟨i,h1,rfl⟩:=mem_map.mp h
 have:=mem_range.mp h1
 have g:∀ k,k<e.length→e.getD k 0∈e:=fun k hk=>by
  rw[getD_eq_getElem?_getD,getElem?_eq_getElem hk]
  exact getElem_mem hk
 exact⟨g _ (by lia),g _ (by lia)⟩
def bO (ts:List (Int×Int))(P:List Int):List Int:=P.filter fun m=>decide (aI ts m % 2=1)
def cn (ts:List (Int×Int))(P:List Int):List Int:=if 0<(bO ts P).length then bO ts P else [P.getD 0 0,P.getD 0 0]
def ay (ts:List (Int×Int))(Ps:List (List Int)):List Int:=Ps.flatMap (cn ts)
theorem aq.more {ts us:List (Int×Int)}{a b:Int}(h:aq ts a b)(k:∀ t∈ts,t∈us):aq us a b:=fun S h1 h2=>h S h1 fun t ht=>h2 t (k t ht)
theorem fV {G:List (Int×Int)}:∀ {Bs:List (List Int)} {a:Int},(∀ B∈Bs,B≠[]∧B.length % 2=0∧∀ x∈B,∀ y∈B,aq G x y)→(∀ t∈jl Bs.flatten,t∈G)→Bs.flatten.head? = some a→∀ y∈Bs.flatten,aq G a y
 | [],_,_,_,h,_,_=>by cases h
 | B :: Bs,a,hB,hG,h1,y,hy=>by
   obtain⟨n1,n2,n3⟩:=hB B (by simp)
   have ha:a∈B:=by
    cases B with
    | nil=>exact absurd rfl n1
    | cons c B =>
      have:c=a:=by simpa using h1
      rw[this];simp
   rw[flatten_cons] at hy hG
   rcases mem_append.mp hy with k | k
   ·exact n3 a ha y k
   ·cases hf:Bs.flatten with
    | nil=>rw[hf] at k;cases k
    | cons c r =>
      have h2:Bs.flatten.head? = some c:=by rw[hf];rfl
      have ev:Bs.flatten.length % 2=0:=by
       have:∀ {Cs:List (List Int)},(∀ B∈Cs,B.length % 2=0)→Cs.flatten.length % 2=0:=by
        intro Cs
        induction Cs with
        | nil=>intro _;rfl
        | cons C Cs ih =>
          intro k
          rw[flatten_cons,length_append]
          have:=k C (by simp)
          have:=ih fun B hB=>k B (by simp[hB])
          lia
       exact this fun C hC=>(hB C (by simp[hC])).2.1
      have h3:=List.getLast?_eq_some_getLast n1
      rw[qB n2 ev h3 h2] at hG
      have ih:=fV (Bs:=Bs) (fun C hC=>hB C (by simp[hC])) (fun t ht=>hG t (by simp[ht])) h2 y k
      have h4:=aq.tile (hG (B.getLast n1,c) (by simp))
      exact (n3 a ha _ (List.getLast_mem n1)).trans (h4.trans ih)
theorem jD {l:List Int}(h:l.Nodup){a:Int}(ha:a∈l):l.count a=1:=by
 have h1:=List.nodup_iff_count.mp h a
 have h2:=count_pos_iff.mpr ha
 lia
theorem ji {P:List Int}(hP:P.Nodup):∀ xs:List Int,(P.map fun m=>xs.count m).sum=(xs.filter fun x=>decide (x∈P)).length
 | []=>by
   have:∀ Q:List Int,(Q.map fun m=>([]:List Int).count m).sum=0:=by
    intro Q
    induction Q with
    | nil=>rfl
    | cons q Q ih=>rw[map_cons,sum_cons,ih];rfl
   rw[this];rfl
 | x :: xs=>by
   have ih:=ji hP xs
   have h1:∀ Q:List Int,(Q.map fun m=>(x :: xs).count m).sum=(Q.map fun m=>xs.count m).sum+Q.count x:=by
    intro Q
    induction Q with
    | nil=>rfl
    | cons q Q ih =>
      rw[map_cons,sum_cons,ih,map_cons,sum_cons,count_cons,count_cons]
      by_cases h:x=q
      ·subst h;simp;lia
      ·have h':¬ q=x:=fun z=>h z.symm
       simp[h,h'];lia
   rw[h1,ih,filter_cons]
   by_cases c:x∈P
   ·rw[if_pos (decide_eq_true c),length_cons,jD hP c]
   ·rw[if_neg (by simpa using c),count_eq_zero_of_not_mem c];rfl
theorem ie {f:Int→Nat}:∀ P:List Int,(P.filter fun m=>decide (f m % 2=1)).length % 2=(P.map f).sum % 2
 | []=>rfl
 | p :: P=>by
   have ih:=ie (f:=f) P
   rw[filter_cons,map_cons,sum_cons]
   by_cases c:f p % 2=1
   ·rw[if_pos (decide_eq_true c),length_cons];lia
   ·rw[if_neg (by simpa using c)];lia
theorem jA {S:Int→Prop}[DecidablePred S]:∀ {ts:List (Int×Int)},mo ts S→((flat ts).filter fun x=>decide (S x)).length % 2=0
 | [],_=>rfl
 | t :: ts,h=>by
   have ih:=jA (ts:=ts) fun u hu=>h u (by simp[hu])
   have ht:=h t (by simp)
   show ((t.1 :: t.2 :: flat ts).filter fun x=>decide (S x)).length % 2=0
   rw[filter_cons,filter_cons]
   by_cases c:S t.1
   ·have c2:=ht.mp c
    rw[if_pos (decide_eq_true c),if_pos (decide_eq_true c2),length_cons,length_cons];lia
   ·have c2:¬ S t.2:=fun z=>c (ht.mpr z)
    rw[if_neg (by simpa using c),if_neg (by simpa using c2)];exact ih
theorem ik {ts:List (Int×Int)}{P:List Int}{m:Int}(h:bw ts m P):(bO ts P).length % 2=0:=by
 have e:bO ts P=P.filter fun m=>decide ((flat ts).count m % 2=1):=by
  unfold bO aI
  apply filter_congr
  intro x _
  apply decide_eq_decide.mpr
  lia
 rw[e,ie,ji h.nodup]
 refine jA (S:=(·∈P)) fun t ht=>?_
 show t.1∈P↔t.2∈P
 rw[h.2,h.2]
 have:=aq.tile ht
 exact⟨fun r=>r.trans this,fun r=>r.trans this.symm⟩
section
variable {ts:List (Int×Int)}{Ps:List (List Int)}{P ms:List Int}
theorem ax.ne (h:ax ts Ps)(hP:P∈Ps):∃ m,P.head? = some m∧bw ts m P∧m∈P:=by
 obtain⟨m,h1,h2⟩:=h.part P hP
 exact⟨m,h1,h2,(h2.2 m).mpr aq.refl⟩
theorem gh (h:ax ts Ps)(hP:P∈Ps):∀ x∈cn ts P,x∈P:=fun x hx=>by
 unfold cn at hx
 split at hx
 ·exact (mem_filter.mp hx).1
 ·obtain⟨m,h1,_,h2⟩:=h.ne hP
  have:P.getD 0 0=m:=by rw[getD_eq_getElem?_getD,←List.head?_eq_getElem?,h1];rfl
  rw[this] at hx
  have:x=m:=by simpa using hx
  rw[this];exact h2
theorem rK (h:ax ts Ps)(hM:aR ts ms)(hP:P∈Ps):(P.filter fun x=>decide (x∈bE ts ms))=bO ts P:=by
 unfold bO
 apply filter_congr
 intro x hx
 apply decide_eq_decide.mpr
 unfold bE
 rw[mem_filter]
 have:x∈ms:=(hM.2 x).mpr ((h.all x).mp (mem_flatten.mpr ⟨P,hP,hx⟩))
 simp[this]
theorem pz (h:ax ts Ps)(hM:aR ts ms)(hP:P∈Ps):(cn ts P).length=2*gW (bE ts ms) P:=by
 obtain⟨m,h1,h2,_⟩:=h.ne hP
 have ev:=ik h2
 unfold gW
 rw[rK h hM hP]
 unfold cn
 split
 ·lia
 ·show 2=_
  lia
theorem gi (h:ax ts Ps)(hM:aR ts ms):(ay ts Ps).length=2*cJ (bE ts ms) Ps:=by
 have:∀ Qs:List (List Int),(∀ P∈Qs,P∈Ps)→(ay ts Qs).length=2*cJ (bE ts ms) Qs:=by
  intro Qs
  induction Qs with
  | nil=>intro _;rfl
  | cons Q Qs ih =>
    intro k
    unfold ay cJ at *
    rw[flatMap_cons,length_append,ih fun P hP=>k P (by simp[hP]),pz h hM (k Q (by simp)),map_cons,sum_cons]
    lia
 exact this Ps fun P hP=>hP
theorem pq (h:ax ts Ps)(hP:P∈Ps)(m:Int):(cn ts P).count m % 2=if m∈P∧aI ts m % 2=1 then 1 else 0:=by
 obtain⟨p,_,h2,_⟩:=h.ne hP
 have nd:(bO ts P).Nodup:=h2.nodup.filter _
 have mem:m∈bO ts P↔m∈P∧aI ts m % 2=1:=by unfold bO;rw[mem_filter];simp
 unfold cn
 split
 ·by_cases c:m∈bO ts P
  ·rw[if_pos (mem.mp c),jD nd c]
  ·rw[if_neg fun z=>c (mem.mpr z),count_eq_zero_of_not_mem c]
 ·rename_i c
  have:bO ts P=[]:=eq_nil_of_length_eq_zero (by lia)
  rw[if_neg fun z=>by have:=mem.mpr z;simp_all]
  rw[count_cons,count_cons,List.count_nil]
  split <;> rfl
theorem pA (h:ax ts Ps)(m:Int):(ay ts Ps).count m % 2=if aI ts m % 2=1 then 1 else 0:=by
 have:∀ Qs:List (List Int),(∀ P∈Qs,P∈Ps)→Qs.flatten.Nodup→(ay ts Qs).count m % 2=if m∈Qs.flatten∧aI ts m % 2=1 then 1 else 0:=by
  intro Qs
  induction Qs with
  | nil=>intro _ _;simp[ay]
  | cons Q Qs ih =>
    intro k nd
    rw[flatten_cons,nodup_append] at nd
    have ih:=ih (fun P hP=>k P (by simp[hP])) nd.2.1
    have h1:=pq h (k Q (by simp)) m
    unfold ay at ih ⊢
    rw[flatMap_cons,count_append]
    by_cases o:aI ts m % 2=1
    ·simp only[o,and_true] at ih h1 ⊢
     simp only[flatten_cons,mem_append]
     by_cases c1:m∈Q
     ·have c2:m∉Qs.flatten:=fun z=>nd.2.2 m c1 m z rfl
      simp[c1,c2] at ih h1 ⊢;lia
     ·by_cases c2:m∈Qs.flatten
      ·simp only[c1,c2,if_true,if_false,false_or] at ih h1 ⊢;lia
      ·simp only[c1,c2,if_false,or_self] at ih h1 ⊢;lia
    ·simp only[o,and_false,if_false] at ih h1 ⊢
     lia
 rw[this Ps (fun P hP=>hP) h.once]
 by_cases o:aI ts m % 2=1
 ·have hm:m∈flat ts:=by
   apply Classical.byContradiction
   intro z
   unfold aI at o
   rw[count_eq_zero_of_not_mem z] at o
   simp at o
  rw[if_pos ⟨(h.all m).mpr hm,o⟩,if_pos o]
 ·rw[if_neg fun z=>o z.2,if_neg o]
end
theorem pS (m:Int)(ts:List (Int×Int)):((jS ts.length).map (dO ts m)).sum=aI ts m:=by
 have e:(jS ts.length).map (dO ts m)=ts.map fun t=>iv t.1 m+iv t.2 m:=by
  unfold jS
  rw[map_map]
  apply ext_getElem?
  intro i
  rw[getElem?_map,getElem?_map]
  by_cases hi:i<ts.length
  ·rw[getElem?_range hi,getElem?_eq_getElem hi]
   show some (dO ts m ((i:Int),false))=some _
   unfold dO ah dN
   simp[getD_eq_getElem?_getD,getElem?_eq_getElem hi]
  ·rw[getElem?_eq_none (by simp;lia),getElem?_eq_none (by lia)];rfl
 rw[e]
 unfold aI
 induction ts with
 | nil=>rfl
 | cons t ts ih =>
   rw[map_cons,sum_cons]
   show _=(((t.1 :: t.2 :: flat ts).count m:Nat):Int)
   have ih':(List.map (fun t:Int×Int=>iv t.1 m+iv t.2 m) ts).sum=((flat ts).count m:Nat):=by
    clear e ih
    induction ts with
    | nil=>rfl
    | cons t ts ih =>
      rw[map_cons,sum_cons]
      show _=(((t.1 :: t.2 :: flat ts).count m:Nat):Int)
      rw[bB,bB,ih];lia
   rw[bB,bB,ih'];lia
theorem lZ (a b:List (Int×Int)):flat (a++b)=flat a++flat b:=by unfold flat;rw[flatMap_append]
theorem o6 {ts:List (Int×Int)}{Ps:List (List Int)}{a b:Int}(h:ax ts Ps)(ha:(ay ts Ps).head? = some a)(hb:(ay ts Ps).getLast? = some b) :
 t0 (ts++jl (ay ts Ps)) [] a b∧∀ x∈ts++jl (ay ts Ps),aq (ts++jl (ay ts Ps)) a x.1:=by
 have ne:∀ P∈Ps,cn ts P≠[]∧(cn ts P).length % 2=0:=fun P hP=>by
  obtain⟨m,h1,h2,_⟩:=h.ne hP
  have ev:=ik h2
  unfold cn
  split
  ·rename_i c
   exact⟨List.ne_nil_of_length_pos c,ev⟩
  ·exact⟨by simp,by simp⟩
 have hl:(ay ts Ps).length % 2=0:=by
  have:∀ Qs:List (List Int),(∀ P∈Qs,P∈Ps)→(ay ts Qs).length % 2=0:=by
   intro Qs
   induction Qs with
   | nil=>intro _;rfl
   | cons Q Qs ih =>
     intro k
     unfold ay at *
     rw[flatMap_cons,length_append]
     have:=ih fun P hP=>k P (by simp[hP])
     have:=(ne Q (k Q (by simp))).2
     lia
  exact this Ps fun P hP=>hP
 have hre:∀ y∈ay ts Ps,aq (ts++jl (ay ts Ps)) a y:=by
  have e:ay ts Ps=(Ps.map (cn ts)).flatten:=by unfold ay;rw[List.flatMap_def]
  rw[e] at ha ⊢
  refine fV (fun B hB=>?_) (fun t ht=>mem_append_right _ ht) ha
  obtain⟨P,hP,rfl⟩:=mem_map.mp hB
  refine⟨(ne P hP).1,(ne P hP).2,fun x hx y hy=>?_⟩
  obtain⟨m,h1,h2,_⟩:=h.ne hP
  have k1:=(h2.2 x).mp (gh h hP x hx)
  have k2:=(h2.2 y).mp (gh h hP y hy)
  exact (k1.symm.trans k2).more fun t ht=>mem_append_left _ ht
 constructor
 ·intro m
  rw[pL,pS]
  have h1:=lS m hl ha hb
  have h2:=pA h m
  unfold aI at h2 ⊢
  rw[lZ,count_append]
  have:=lT a m
  have:=lT b m
  split at h2 <;> lia
 ·intro x hx
  rcases mem_append.mp hx with k | k
  ·obtain⟨P,hP,hxP⟩:=mem_flatten.mp ((h.all x.1).mpr ((fS ts _).mpr (mem_append_left _ (mem_map.mpr ⟨x,k,rfl⟩))))
   obtain⟨y,hy⟩:=List.exists_mem_of_ne_nil _ (ne P hP).1
   obtain⟨m,h1,h2,_⟩:=h.ne hP
   have k1:=(h2.2 x.1).mp hxP
   have k2:=(h2.2 y).mp (gh h hP y hy)
   exact (hre y (mem_flatMap.mpr ⟨P,hP,hy⟩)).trans ((k2.symm.trans k1).more fun t ht=>mem_append_left _ ht)
  ·exact hre x.1 (tK k).1
end L2
namespace L2
open PySem PySem.Spec PyProof.Rows
structure Spl (n:Int)(row:List (Int×Bool))(ds:List (List (Int×Bool)))(last:List (Int×Bool)):Prop where
 flat:(ds++[last]).flatten=row.filter fun st=>decide (st.1<n)
 len:ds.length=(row.filter fun st=>decide (¬ st.1<n)).length
 parts:∀ R∈ds,∃ pre post,row=pre++(R++post)
 end_:∃ pre,row=pre++last
theorem Spl.nil (n:Int):Spl n [] [] []:=⟨rfl,rfl,fun R h=>by simp at h,[],rfl⟩
theorem Spl.tile {n:Int}{row last:List (Int×Bool)}{ds:List (List (Int×Bool))}{st:Int×Bool}(h:Spl n row ds last)(c:st.1<n):Spl n (row++[st]) ds (last++[st]):=by
 refine⟨?_,?_,fun R hR=>?_,?_⟩
 ·have:=h.flat
  rw[filter_append,←this,filter_cons,if_pos (decide_eq_true c)]
  simp
 ·rw[filter_append,filter_cons,if_neg (by simpa using c),List.filter_nil,append_nil]
  exact h.len
 ·obtain⟨pre,post,e⟩:=h.parts R hR
  exact⟨pre,post++[st],by rw[e];simp⟩
 ·obtain⟨pre,e⟩:=h.end_
  exact⟨pre,by rw[e];simp⟩
theorem Spl.joint {n:Int}{row last:List (Int×Bool)}{ds:List (List (Int×Bool))}{st:Int×Bool}(h:Spl n row ds last)(c:¬ st.1<n):Spl n (row++[st]) (ds++[last]) []:=by
 refine⟨?_,?_,fun R hR=>?_,⟨_,(append_nil _).symm⟩⟩
 ·rw[filter_append,←h.flat,filter_cons,if_neg (by simpa using c)]
  simp
 ·rw[filter_append,length_append,length_append,←h.len,filter_cons,if_pos (by simpa using c)]
  rfl
 ·rcases mem_append.mp hR with k | k
  ·obtain⟨pre,post,e⟩:=h.parts R k
   exact⟨pre,post++[st],by rw[e];simp⟩
  ·obtain⟨pre,e⟩:=h.end_
   rw[mem_singleton.mp k]
   exact⟨pre,[st],by rw[e];simp⟩
theorem Spl.part {n:Int}{row last:List (Int×Bool)}{ds:List (List (Int×Bool))}(h:Spl n row ds last){R:List (Int×Bool)}(hR:R∈ds++[last]):∃ pre post,row=pre++(R++post):=by
 rcases mem_append.mp hR with k | k
 ·exact h.parts R k
 ·obtain⟨pre,e⟩:=h.end_
  rw[mem_singleton.mp k]
  exact⟨pre,[],by rw[e];simp⟩
def cg (n:Nat):List Int:=(List.range n).map fun (i:Nat)=>(i:Int)
theorem iV (n j:Nat):(cg (n+j)).filter (fun x=>decide (x<(n:Int)))=cg n∧(cg (n+j)).filter (fun x=>decide (¬ x<(n:Int)))=(List.range j).map fun (i:Nat)=>((n+i:Nat):Int):=by
 unfold cg
 rw[List.range_add,map_append,filter_append,filter_append]
 have a1:((List.range n).map fun (i:Nat)=>(i:Int)).filter (fun x=>decide (x<(n:Int)))=(List.range n).map fun (i:Nat)=>(i:Int):=List.filter_eq_self.mpr fun x hx=>by
  obtain⟨i,h1,rfl⟩:=mem_map.mp hx
  have:=mem_range.mp h1
  exact decide_eq_true (by lia)
 have a2:((List.range n).map fun (i:Nat)=>(i:Int)).filter (fun x=>decide (¬ x<(n:Int)))=[]:=filter_eq_nil_iff.mpr fun x hx=>by
  obtain⟨i,h1,rfl⟩:=mem_map.mp hx
  have:=mem_range.mp h1
  simp;assumption
 have b1:(((List.range j).map fun i=>n+i).map fun (i:Nat)=>(i:Int)).filter (fun x=>decide (x<(n:Int)))=[]:=filter_eq_nil_iff.mpr fun x hx=>by
  obtain⟨i,h1,rfl⟩:=mem_map.mp hx
  obtain⟨k,_,rfl⟩:=mem_map.mp h1
  simp;lia
 have b2:(((List.range j).map fun i=>n+i).map fun (i:Nat)=>(i:Int)).filter (fun x=>decide (¬ x<(n:Int)))=((List.range j).map fun i=>n+i).map fun (i:Nat)=>(i:Int):=List.filter_eq_self.mpr fun x hx=>by
  obtain⟨i,h1,rfl⟩:=mem_map.mp hx
  obtain⟨k,_,rfl⟩:=mem_map.mp h1
  exact decide_eq_true (by lia)
 rw[a1,a2,b1,b2,append_nil,nil_append,map_map]
 exact⟨rfl,rfl⟩
theorem pp {ts us:List (Int×Int)}{st:Int×Bool}(h:inT ts st.1):ah (ts++us) st=ah ts st:=by
 unfold ah
 have:=h.1
 have:=h.2
 rw[getD_eq_getElem?_getD,getD_eq_getElem?_getD,getElem?_append_left (by lia)]
theorem Pth.left {ts us:List (Int×Int)}:∀ {r:List (Int×Bool)} {a b:Int},(∀ st∈r,inT ts st.1)→Pth (ts++us) a r b→Pth ts a r b
 | [],_,_,_,h=>h
 | st :: r,a,b,k,h=>by
   have e:=pp (us:=us) (k st (by simp))
   obtain⟨h1,h2⟩:=h
   rw[e] at h1 h2
   exact⟨h1,Pth.left (fun x hx=>k x (by simp[hx])) h2⟩
def hE (ts:List (Int×Int))(st:Int×Bool):Int×Int×Bool:=((ah ts st).1,(ah ts st).2,st.2)
theorem qP {ts:List (Int×Int)}:∀ {r:List (Int×Bool)} {a b:Int},Pth ts a r b→Chn (r.map (hE ts))
 | [],_,_,_=>trivial
 | [st],_,_,_=>trivial
 | st :: st' :: r,_,_,h=>⟨h.2.1.symm,qP (r:=st' :: r) h.2⟩
theorem pN (ts:List (Int×Int))(st:Int×Bool):bu (hE ts st)=ts.getD st.1.toNat (0,0):=by
 unfold bu hE ah dN
 cases st.2 <;> rfl
theorem oY {ts:List (Int×Int)}{r:List (Int×Bool)}(h:(r.map (·.1)).Perm (cg ts.length)):ts.Perm ((r.map (hE ts)).map bu):=by
 have e:(r.map (hE ts)).map bu=(r.map (·.1)).map fun n=>ts.getD n.toNat (0,0):=by
  rw[map_map,map_map]
  exact map_congr_left fun st _=>pN ts st
 rw[e]
 refine List.Perm.trans (.of_eq ?_) (h.map _).symm
 unfold cg
 rw[map_map]
 apply ext_getElem?
 intro i
 rw[getElem?_map]
 by_cases hi:i<ts.length
 ·rw[getElem?_range hi,getElem?_eq_getElem hi]
  simp[getD_eq_getElem?_getD,getElem?_eq_getElem hi]
 ·rw[getElem?_eq_none (by lia),getElem?_eq_none (by simp;lia)];rfl
theorem cQ {α:Type}:∀ Rs:List (List α),(Rs.filter fun R=>decide (0<R.length)).flatten=Rs.flatten
 | []=>rfl
 | R :: Rs=>by
   rw[filter_cons]
   split
   ·rw[flatten_cons,flatten_cons,cQ Rs]
   ·rename_i c
    have:R=[]:=eq_nil_of_length_eq_zero (by simpa using c)
    rw[this,cQ Rs];rfl
theorem lU {Ps:List (List Int)}(h:ax [] Ps):Ps=[]:=by
 cases Ps with
 | nil=>rfl
 | cons P Ps =>
   obtain⟨m,_,_,h2⟩:=h.ne (P:=P) (by simp)
   have:=(h.all m).mp (mem_flatten.mpr ⟨P,by simp,h2⟩)
   cases this
theorem jq {ts:List (Int×Int)}{Ps:List (List Int)}(h:ax ts Ps)(ht:ts≠[]):0<Ps.length:=by
 cases ts with
 | nil=>exact absurd rfl ht
 | cons t ts =>
   obtain⟨P,hP,_⟩:=mem_flatten.mp ((h.all t.1).mpr (iD (by simp)))
   exact length_pos_of_mem hP
theorem kK {odds:List Int}{Ps:List (List Int)}:Ps.length≤cJ odds Ps:=by
 unfold cJ
 induction Ps with
 | nil=>exact Nat.le_refl _
 | cons P Ps ih =>
   rw[map_cons,sum_cons,length_cons]
   have:1≤gW odds P:=by unfold gW;lia
   lia
theorem pj {ts:List (Int×Int)}{Ps:List (List Int)}{ms:List Int}{s t:Int}{row last:List (Int×Bool)}{ds:List (List (Int×Bool))}(h:ax ts Ps)(hM:aR ts ms)(ht:ts≠[])
 (hP:Pth (ts++jl (ay ts Ps)) s row t) (hF:dH (ts++jl (ay ts Ps)) row) (hp:(row.map (·.1)).Perm (cg (ts++jl (ay ts Ps)).length)) (hS:Spl ts.length row ds last):mq ts (ds++[last]):=by
 have hw:=gi h hM
 have h1:0<Ps.length:=jq h ht
 have h2:=kK (odds:=bE ts ms) (Ps:=Ps)
 rw[length_append,qA,hw] at hp
 obtain⟨r1,r2⟩:=iV ts.length (2*cJ (bE ts ms) Ps / 2-1)
 have p1:=hp.filter fun x=>decide (x<(ts.length:Int))
 have p2:=hp.filter fun x=>decide (¬ x<(ts.length:Int))
 rw[r1,List.filter_map] at p1
 rw[r2,List.filter_map] at p2
 have f1:((ds++[last]).flatten.map (·.1)).Perm (cg ts.length):=by rw[hS.flat];exact p1
 have n1:(ds++[last]).length=cJ (bE ts ms) Ps:=by
  have:=p2.length_eq
  rw[length_map,length_map,length_range] at this
  have e:=hS.len
  have e2:(row.filter fun st=>decide (¬ st.1<(ts.length:Int))).length=2*cJ (bE ts ms) Ps / 2-1:=this
  rw[length_append,e,e2,length_singleton]
  lia
 have ins:∀ R∈ds++[last],∀ st∈R,inT ts st.1:=fun R hR st hst=>by
  have:st.1∈cg ts.length:=f1.mem_iff.mp (mem_map.mpr ⟨st,mem_flatten.mpr ⟨R,hR,hst⟩,rfl⟩)
  obtain⟨i,k1,k2⟩:=mem_map.mp this
  have:=mem_range.mp k1
  rw[←k2]
  exact⟨by lia,by lia⟩
 have pth:∀ R∈ds++[last],∃ a b,Pth ts a R b:=fun R hR=>by
  obtain⟨pre,post,e⟩:=hS.part hR
  rw[e] at hP
  obtain⟨a,_,k1⟩:=hP.cut
  obtain⟨b,k2,_⟩:=k1.cut
  exact⟨a,b,k2.left (ins R hR)⟩
 have nd:((ds++[last]).flatten.map (·.1)).Nodup:=by
  rw[f1.nodup_iff]
  unfold cg
  rw[List.Nodup,pairwise_map]
  exact nodup_range.imp fun {a b:Nat} (h:a≠b) (z:(a:Int)=b)=>h (by lia)
 have nfl:∀ R∈ds++[last],dH ts R:=fun R hR=>by
  obtain⟨a,b,k⟩:=pth R hR
  refine k.noflaw ?_ (ins R hR)
  exact nd.sublist ((List.sublist_flatten_of_mem hR).map _)
 have ne:∀ R∈ds++[last],R≠[]:=by
  have hb:=g6 (ts:=ts) (ps:=((ds++[last]).flatten).map (hE ts)) (Rs:=((ds++[last]).filter fun R=>decide (0<R.length)).map fun R=>R.map (hE ts)) (oY f1)
   (by rw[←List.map_flatten,cQ])
   (fun R hR=>by
    obtain⟨R',k1,rfl⟩:=mem_map.mp hR
    obtain⟨k2,k3⟩:=mem_filter.mp k1
    obtain⟨a,b,k⟩:=pth R' k2
    refine⟨fun z=>?_,qP k⟩
    have:=of_decide_eq_true k3
    rw[List.map_eq_nil_iff.mp z] at this
    exact absurd this (by simp)) h hM
  rw[length_map,←n1] at hb
  have e:=length_filter_le (fun R=>decide (0<R.length)) (ds++[last])
  have:=List.length_filter_eq_length_iff.mp (Nat.le_antisymm e hb)
  intro R hR z
  have:=of_decide_eq_true (this R hR)
  rw[z] at this
  cases this
 refine⟨fun R hR=>⟨ne R hR,nfl R hR⟩,f1,fun Qs ms' h' hM'=>?_⟩
 rw[h'.uniq h,hM'.uniq hM]
 exact n1
end L2
namespace L2
open PySem PySem.Spec PyProof.Rows
def sR {β:Type}(f:Int→β)(v:Int)(x:β):Int→β:=fun m=>if m=v then x else f m
theorem gL {β:Type}(f:Int→β)(v:Int)(x:β):sR f v x v=x:=if_pos rfl
theorem gK {β:Type}(f:Int→β){v m:Int}(x:β)(h:m≠v):sR f v x m=f m:=if_neg h
theorem jt {S way:List (Int×Bool)}(hn:(S.map (·.1)).Nodup)(hw:∀ p∈way,p∈S)(hd:way.Nodup):(S.filter fun st=>decide (st.1∈way.map (·.1))).Perm way:=by
 have hS:S.Nodup:=List.Pairwise.of_map _ (fun a b hab e=>hab (by rw[e])) hn
 rw[List.perm_ext_iff_of_nodup (hS.filter _) hd]
 intro st
 rw[mem_filter]
 constructor
 ·rintro⟨h1,h2⟩
  obtain⟨p,hp,e⟩:=mem_map.mp (of_decide_eq_true h2)
  rw[←cb hn (hw p hp) h1 e]
  exact hp
 ·intro h
  exact⟨hw st h,decide_eq_true (mem_map.mpr ⟨st,h,rfl⟩)⟩
end L2
namespace L2
open PySem PySem.Spec PyProof.Rows
def nbV (ps:List (Int×V))(x:Int):List V:=(ps.filter fun p=>decide (p.1=x)).map (·.2)
theorem nP {ps:List (Int×V)}{x:Int}{y:V}:y∈nbV ps x↔(x,y)∈ps:=by
 unfold nbV
 rw[mem_map]
 constructor
 ·rintro⟨p,h1,h2⟩
  obtain⟨h3,h4⟩:=mem_filter.mp h1
  have e:p.1=x:=of_decide_eq_true h4
  rw[←e,←h2]
  exact h3
 ·intro h
  exact⟨(x,y),mem_filter.mpr ⟨h,decide_eq_true rfl⟩,rfl⟩
theorem rM (ps:List (Int×V))(x:Int):(nbV ps x).length≤ps.length:=by
 unfold nbV
 rw[length_map]
 exact length_filter_le _ _
theorem fM (ps:List (Int×V))(x:Int)(y:V)(z:Int):nbV (ps++[(x,y)]) z=nbV ps z++if x=z then [y] else []:=by
 unfold nbV
 rw[filter_append,map_append,filter_cons]
 by_cases h:x=z
 ·rw[if_pos (decide_eq_true h),if_pos h];rfl
 ·rw[if_neg (by simpa using h),if_neg h];rfl
structure mw (H:Hp)(d:Addr)(ps:List (Int×V))(es:List (Int×Addr)):Prop where
 at_:H d=some (.dK (kvB es))
 keys:(es.map (·.1)).Nodup
 adrs:(es.map (·.2)).Nodup
 lsts:∀ e∈es,H e.2=some (.lst (nbV ps e.1))
 mem:∀ m,m∈es.map (·.1)↔m∈ps.map (·.1)
theorem mw.same {H H':Hp}{d:Addr}{ps:List (Int×V)}{es:List (Int×Addr)}(h:mw H d ps es)(s:ak H H'):mw H' d ps es:=⟨s _ _ h.at_,h.keys,h.adrs,fun e he=>s _ _ (h.lsts e he),h.mem⟩
theorem mw.len {H:Hp}{d:Addr}{ps:List (Int×V)}{es:List (Int×Addr)}(h:mw H d ps es):es.length≤ps.length:=by
 have:=aD (b:=ps.map (·.1)) h.keys fun x hx=>(h.mem x).mp hx
 rwa [length_map,length_map] at this
theorem nk {es:List (Int×Addr)}{m:Int}{v:V}(h:bo (kvB es) (Sum.inl m)=some v):∃ q,(m,q)∈es∧v=.ref q:=by
 rw[dW] at h
 obtain⟨e,he,ev⟩:=Option.map_eq_some_iff.mp h
 have h0:=find?_some he
 have h1:e.1=m:=of_decide_eq_true h0
 have h2:=mem_of_find?_eq_some he
 exact⟨e.2,h1▸h2,ev.symm⟩
theorem nj {es:List (Int×Addr)}{m:Int}(h:bo (kvB es) (Sum.inl m)=none):m∉es.map (·.1):=fun z=>by
 rw[dW,Option.map_eq_none_iff,find?_eq_none] at h
 obtain⟨e,he,e1⟩:=mem_map.mp z
 exact h e he (decide_eq_true e1)
theorem qT {td ty te:TE}{D:i9}{σ:St}{H0 Hs:Hp}{d:Addr}{ps:List (Int×V)}{es:List (Int×Addr)}{x:Int}{y:V}(b0:mw Hs d ps es)(hd0:H0 d=none)(hs0:ak H0 Hs)(hf:∀ e∈es,H0 e.2=none)(hz:ps.length<10000)
 (htd:∀ Q:VK,Q (.ref d) Hs→td σ Hs Q) (hty:∀ Q:VK,(∀ H',ak Hs H'→Q (.int x) H')→ty σ Hs Q) (hte:∀ (H:Hp) (Q:VK),Q y H→te σ H Q)
 (nx:∀ H' es',mw H' d (ps++[(x,y)]) es'→ak H0 H'→(∀ e∈es',H0 e.2=none)→(∀ p xs,Hs p=some (.tup xs)→H' p=some (.tup xs))→D.nx σ H'):nn (np (jR td ty (pQ mD)) te) D σ Hs:=by
 refine htd _ ⟨d,rfl,.inl ⟨_,.inl b0.at_⟩,hty _ fun H s0=>⟨(by show 0≤sizeLine;decide),fun p H1 n1=>?_⟩⟩
 have b:=b0.same s0
 have hs:=hs0.trans s0
 have hlen:=b.len
 have s1:=n1.same
 refine⟨_,Sum.inl x,s1 _ _ b.at_,rfl,aw (by unfold kvB;rw[length_map];lia),fun v hv=>?_,fun hn H2 c2=>?_⟩
 ·obtain⟨q,h2,ev⟩:=nk hv
  subst ev
  have hq:H q=some (.lst (nbV ps x)):=b.lsts _ h2
  refine⟨q,_,rfl,s1 _ _ hq,hte _ _ ⟨_,s1 _ _ hq,aw (by have:=rM ps x;lia),fun H3 c3=>?_⟩⟩
  refine nx H3 es ⟨?_,b.keys,b.adrs,fun g hg=>?_,fun m=>?_⟩ (c3.same (hs.trans s1) (hf _ h2)) hf fun t xs e=>?_
  ·rw[c3.oth d (bz b.at_ hq (by intro z;cases z))]
   exact s1 _ _ b.at_
  ·by_cases hge:g.2=q
   ·have:g=(x,q):=cb (f:=(·.2)) b.adrs hg h2 hge
    subst this
    rw[c3.is,fM,if_pos rfl]
   ·have hne:¬ x=g.1:=fun z=>hge (by rw[cb (f:=(·.1)) b.keys hg h2 z.symm])
    rw[c3.oth g.2 hge,fM,if_neg hne,append_nil]
    exact s1 _ _ (b.lsts g hg)
  ·rw[b.mem m,map_append,mem_append]
   refine⟨.inl,fun z=>z.elim id fun z=>?_⟩
   have:m=x:=by simpa using z
   rw[this]
   exact (b.mem _).mp (mem_map.mpr ⟨_,h2,rfl⟩)
  ·have e1:=s0 _ _ e
   rw[c3.oth t (bz e1 hq (by intro z;cases z))]
   exact s1 _ _ e1
 ·have hx:=nj hn
  have hpd:p≠d:=fun z=>by have h:=b.at_;rw[←z,n1.was] at h;cases h
  have hp2:H2 p=some (.lst []):=by rw[c2.oth p hpd];exact n1.is
  have hp0:H0 p=none:=hs.free n1.was
  rw[fK _ hn] at c2
  refine⟨p,_,rfl,hp2,hte _ _ ⟨_,hp2,(by show 0<sizeLine;decide),fun H3 c3=>?_⟩⟩
  refine nx H3 (es++[(x,p)]) ⟨?_,?_,?_,fun g hg=>?_,fun m=>?_⟩ (c3.same (c2.same (hs.trans s1) hd0) hp0) (fun g hg=>?_) fun t xs e=>?_
  ·rw[c3.oth d hpd.symm,c2.is]
   unfold kvB
   rw[map_append]
   rfl
  ·rw[map_append,nodup_append]
   refine⟨b.keys,by simp,fun u hu v hv z=>hx ?_⟩
   have:v=x:=by simpa using hv
   rw[←this,←z]
   exact hu
  ·rw[map_append,nodup_append]
   refine⟨b.adrs,by simp,fun u hu v hv z=>?_⟩
   have:v=p:=by simpa using hv
   obtain⟨g,hg,eg⟩:=mem_map.mp hu
   have h1:=b.lsts g hg
   rw[show g.2=p from eg.trans (z.trans this),n1.was] at h1
   cases h1
  ·rcases mem_append.mp hg with hg | hg
   ·have h1:=b.lsts g hg
    have hgp:g.2≠p:=fun z=>by rw[z,n1.was] at h1;cases h1
    have hne:¬ x=g.1:=fun z=>hx (z▸mem_map.mpr ⟨g,hg,rfl⟩)
    rw[c3.oth g.2 hgp,c2.oth g.2 (bz h1 b.at_ (by intro z;cases z)),fM,if_neg hne,append_nil]
    exact s1 _ _ h1
   ·have:g=(x,p):=by simpa using hg
    subst this
    have hnb:nbV ps x=[]:=by
     unfold nbV
     rw[filter_eq_nil_iff.mpr,map_nil]
     intro q hq z
     exact hx ((b.mem x).mpr (mem_map.mpr ⟨q,hq,of_decide_eq_true z⟩))
    rw[c3.is,fM,if_pos rfl,hnb]
  ·rw[map_append,mem_append,map_append,mem_append,b.mem m]
   rfl
  ·rcases mem_append.mp hg with hg | hg
   ·exact hf g hg
   ·have:g=(x,p):=by simpa using hg
    subst this
    exact hp0
  ·have e1:=s0 _ _ e
   have htp:t≠p:=fun z=>by rw[z,n1.was] at e1;cases e1
   rw[c3.oth t htp,c2.oth t (bz e1 b.at_ (by intro z;cases z))]
   exact s1 _ _ e1
structure Lv (ts:List (Int×Int))(S:List (Int×Bool))(H:Hp)(d:Addr)(es:List (Int×Addr))(L:Int→List V)(laid:List Int):Prop where
 at_:H d=some (.dK (kvB es))
 keys:(es.map (·.1)).Nodup
 adrs:(es.map (·.2)).Nodup
 lsts:∀ e∈es,H e.2=some (.lst (L e.1))
 non:∀ m,m∉es.map (·.1)→L m=[]
 into:∀ m v,v∈L m→∃ p st,v=.ref p∧H p=some (.tup (scS st))∧st∈S∧(ah ts st).1=m
 out:∀ st∈S,st.1∈laid∨∃ p,V.ref p∈L (ah ts st).1∧H p=some (.tup (scS st))
theorem Lv.keep {ts:List (Int×Int)}{S:List (Int×Bool)}{H H':Hp}{d:Addr}{es:List (Int×Addr)}{L:Int→List V}{laid:List Int}(h:Lv ts S H d es L laid){x:Addr}(k:∀ b u,b≠x→H b=some u→H' b=some u)(h1:x≠d)(h2:x∉es.map (·.2))(h3:∀ xs,H x≠some (.tup xs)):Lv ts S H' d es L laid :=
 ⟨k _ _ (Ne.symm h1) h.at_,h.keys,h.adrs,fun e he=>k _ _ (fun z=>h2 (z▸mem_map.mpr ⟨e,he,rfl⟩)) (h.lsts e he),h.non,
  fun m v hv=>by
   obtain⟨p,st,e1,e2,e3⟩:=h.into m v hv
   exact⟨p,st,e1,k _ _ (fun z=>h3 _ (z▸e2)) e2,e3⟩,
  fun st hst=>(h.out st hst).imp id fun⟨p,e1,e2⟩=>⟨p,e1,k _ _ (fun z=>h3 _ (z▸e2)) e2⟩⟩
theorem Lv.same {ts:List (Int×Int)}{S:List (Int×Bool)}{H H':Hp}{d:Addr}{es:List (Int×Addr)}{L:Int→List V}{laid:List Int}(h:Lv ts S H d es L laid)(s:ak H H'):Lv ts S H' d es L laid :=
 ⟨s _ _ h.at_,h.keys,h.adrs,fun e he=>s _ _ (h.lsts e he),h.non,
  fun m v hv=>by
   obtain⟨p,st,e1,e2,e3⟩:=h.into m v hv
   exact⟨p,st,e1,s _ _ e2,e3⟩,
  fun st hst=>(h.out st hst).imp id fun⟨p,e1,e2⟩=>⟨p,e1,s _ _ e2⟩⟩
theorem rn {a b:Int×Bool}(h:(some (.tup (scS a)):Option HO)=some (.tup (scS b))):a=b:=by
 injection h with h
 injection h with h
 injection h with h1 h2
 injection h1 with h1
 injection h2 with h2
 injection h2 with h2
 exact Prod.ext h1 h2
theorem Lv.pop {ts:List (Int×Int)}{S:List (Int×Bool)}{H H':Hp}{d q:Addr}{es:List (Int×Addr)}{L:Int→List V}{laid laid':List Int}{m:Int}{xs:List V}{p:Addr}{st:Int×Bool}(h:Lv ts S H d es L laid)(hq:(m,q)∈es)(hL:L m=xs++[.ref p])(hp:H p=some (.tup (scS st)))
 (c:Chg H q (.lst xs) H') (hl:∀ x∈laid,x∈laid') (hst:st.1∈laid'):Lv ts S H' d es (sR L m xs) laid':=by
 have hqa:=h.lsts _ hq
 have tk:∀ b ys,H b=some (.tup ys)→H' b=some (.tup ys):=fun b ys e=>by rw[c.oth b (bz e hqa (by intro z;cases z))];exact e
 refine⟨?_,h.keys,h.adrs,fun e he=>?_,fun k hk=>?_,fun k v hv=>?_,fun s hs=>?_⟩
 ·rw[c.oth d (bz h.at_ hqa (by intro z;cases z))];exact h.at_
 ·by_cases z:e.2=q
  ·have:e=(m,q):=cb (f:=(·.2)) h.adrs he hq z
   subst this
   rw[c.is,gL]
  ·have hne:e.1≠m:=fun y=>z (by rw[cb (f:=(·.1)) h.keys he hq y])
   rw[c.oth _ z,gK _ _ hne]
   exact h.lsts e he
 ·have hne:k≠m:=fun y=>hk (y▸mem_map.mpr ⟨_,hq,rfl⟩)
  rw[gK _ _ hne]
  exact h.non k hk
 ·have hv':v∈L k:=by
   by_cases z:k=m
   ·subst z
    rw[gL] at hv
    rw[hL];exact mem_append_left _ hv
   ·rwa [gK _ _ z] at hv
  obtain⟨p',s',e1,e2,e3⟩:=h.into k v hv'
  exact⟨p',s',e1,tk _ _ e2,e3⟩
 ·rcases h.out s hs with k | ⟨p',e1,e2⟩
  ·exact .inl (hl _ k)
  ·by_cases z:(ah ts s).1=m
   ·rw[z,hL,mem_append] at e1
    rcases e1 with e1 | e1
    ·exact .inr ⟨p',by rw[z,gL];exact e1,tk _ _ e2⟩
    ·have:p'=p:=by
      have:=mem_singleton.mp e1
      injection this
     subst this
     rw[hp] at e2
     rw[←rn e2]
     exact .inl hst
   ·exact .inr ⟨p',by rw[gK _ _ z];exact e1,tk _ _ e2⟩
def nH:Sp:=fun vs H Q _=>∃ (l:Addr) (ts:List (Int×Int)),vs=[.ref l]∧Til H l ts∧ts.length≤3000 ∧
 ∀ (r:Addr) (H':Hp),H r=none→ak H H'→Row H' r (fe ts.length)→Q (.ref r) H'
def k7:Sp:=fun vs H Q _=>∃ (t r:Addr) (ts:List (Int×Int)) (S:List (Int×Bool)),vs=[.ref t,.ref r]∧Til H t ts∧Row H r S∧S.length≤9000∧(∀ st∈S,inT ts st.1) ∧
 ∀ (d:Addr) (es:List (Int×Addr)) (L:Int→List V) (H':Hp),H d=none→(∀ e∈es,H e.2=none)→ak H H'→Lv ts S H' d es L []→Q (.ref d) H'
def pU:Sp:=fun vs H Q _=>∃ (d ld:Addr) (m:Int) (ts:List (Int×Int)) (S:List (Int×Bool)) (es:List (Int×Addr)) (L:Int→List V) (laid:List Int),vs=[.ref d,.int m,.ref ld]∧Lv ts S H d es L laid∧H ld=some (.dK (kvT laid))∧d≠ld∧laid.length≤9000 ∧
 (∀ (L':Int→List V) (H':Hp),(∀ b u,b≠ld→b∉es.map (·.2)→H b=some u→H' b=some u)→Lv ts S H' d es L' laid→H' ld=some (.dK (kvT laid))→(∀ st∈S,(ah ts st).1=m→st.1∈laid)→Q .non H') ∧
 ∀ (p:Addr) (st:Int×Bool) (L':Int→List V) (H':Hp),(∀ b u,b≠ld→b∉es.map (·.2)→H b=some u→H' b=some u)→Lv ts S H' d es L' (laid++[st.1])→H' ld=some (.dK (kvT (laid++[st.1])))→H' p=some (.tup (scS st))→st∈S→(ah ts st).1=m→st.1∉laid→Q (.ref p) H'
def nz:Sp:=fun vs H Q _=>∃ (t r:Addr) (ts:List (Int×Int)) (S:List (Int×Bool)) (s e:Int) (B:List Int→Int→Int→Prop),vs=[.ref t,.ref r,.int s]∧Til H t ts∧Row H r S∧ts.length≤3000∧S.length≤9000∧Bal ts S B∧B [] s e∧(∀ x∈ts,aq ts s x.1) ∧
 ∀ (w:Addr) (row:List (Int×Bool)) (H':Hp),H w=none→ak H H'→Row H' w row→Pth ts s row e→dH ts row→(row.map (·.1)).Perm (cg ts.length)→(∀ st∈row,st∈S)→Q (.ref w) H'
def pX:Sp:=fun vs H Q _=>∃ (l:Addr) (ts:List (Int×Int)),vs=[.ref l]∧Til H l ts∧ts.length≤1000 ∧
 ∀ (p:Addr) (Ps:List (List Int)) (ms:List Int) (H':Hp),ax ts Ps→aR ts ms→H p=none→ak H H'→H' p=some (.lst ((ay ts Ps).map V.int))→Q (.ref p) H'
def kW:Sp:=fun vs H Q _=>∃ (l:Addr) (e:List Int),vs=[.ref l]∧H l=some (.lst (e.map V.int))∧e.length≤9000∧e.length % 2=0 ∧
 ∀ (p:Addr) (H':Hp),H p=none→ak H H'→Til H' p (jl e)→Q (.ref p) H'
def nC:Sp:=fun vs H Q _=>∃ (r:Addr) (row:List (Int×Bool)) (n:Int),vs=[.ref r,.int n]∧Row H r row∧row.length≤9000 ∧
 ∀ (p:Addr) (rs:List Addr) (ds:List (List (Int×Bool))) (last:List (Int×Bool)) (H':Hp),ak H H'→jM H' p rs (ds++[last])→Spl n row ds last→Q (.ref p) H'
theorem l6 {ts:List (Int×Int)}{Ps:List (List Int)}(h:ax ts Ps):(ay ts Ps).length≤4*ts.length:=by
 have key:∀ Qs:List (List Int),(∀ P∈Qs,P∈Ps)→(ay ts Qs).length≤2*Qs.flatten.length:=by
  intro Qs
  induction Qs with
  | nil=>intro _;exact Nat.le_refl _
  | cons Q Qs ih =>
    intro k
    have i1:=ih fun P hP=>k P (by simp[hP])
    unfold ay at i1 ⊢
    rw[flatMap_cons,length_append,flatten_cons,length_append]
    obtain⟨m,_,_,hm⟩:=h.ne (k Q (by simp))
    have hp:=length_pos_of_mem hm
    have:(cn ts Q).length≤2*Q.length:=by
     unfold cn
     split
     ·unfold bO
      have:=length_filter_le (fun m=>decide (aI ts m % 2=1)) Q
      lia
     ·show 2≤_
      lia
    lia
 have h1:=key Ps fun P hP=>hP
 have h2:=h.len
 lia
theorem m6 {ts:List (Int×Int)}{Ps:List (List Int)}{ms:List Int}(h:ax ts Ps)(hM:aR ts ms):(ay ts Ps).length % 2=0:=by
 rw[gi h hM];lia
theorem iA (n:Nat):fe (n+1)=fe n++[((n:Int),true)]++[((n:Int),false)]:=by
 unfold fe
 rw[range_succ,flatMap_append]
 simp
theorem jx (n:Nat):(fe n).length=2*n:=by
 induction n with
 | zero=>rfl
 | succ n ih=>rw[iA];simp[ih];lia
theorem Tl.oth {α:Type}{sc:α→List V}{H H':Hp}{l x:Addr}{xs:List α}{o:HO}(h:Tl sc H l xs)(c:Chg H x o H')(h1:l≠x)(h2:∀ ys,H x≠some (.tup ys)):Tl sc H' l xs:=by
 obtain⟨ps,e1,e2,e3⟩:=h
 exact⟨ps,by rw[c.oth l h1];exact e1,e2,fun i p y k1 k2=>by
  have e:=e3 i p y k1 k2
  rw[c.oth p (fun z=>h2 _ (z▸e))];exact e⟩
theorem Tl.kept {α:Type}{sc:α→List V}{H H':Hp}{l:Addr}{xs:List α}(h:Tl sc H l xs)(ex:Addr→Prop)(k:∀ b u,¬ ex b→H b=some u→H' b=some u)(h1:¬ ex l)(h2:∀ b ys,ex b→H b≠some (.tup ys)):Tl sc H' l xs:=by
 obtain⟨ps,e1,e2,e3⟩:=h
 exact⟨ps,k _ _ h1 e1,e2,fun i p y k1 k2=>by
  have e:=e3 i p y k1 k2
  exact k _ _ (fun z=>h2 _ _ z e) e⟩
theorem Tl.popL {α:Type}{sc:α→List V}{H:Hp}{l:Addr}{xs:List α}{x:α}{vs:List V}(h:Tl sc H l (xs++[x]))(e:H l=some (.lst vs)):∃ p us,vs=us++[.ref p]∧H p=some (.tup (sc x))∧∀ H',Chg H l (.lst us) H'→Tl sc H' l xs:=by
 obtain⟨ps,e1,e2,e3⟩:=h
 rcases eq_nil_or_concat ps with z | ⟨us,p,z⟩
 ·subst z;simp at e2
 ·have z':ps=us++[p]:=by simpa using z
  subst z'
  rw[e1] at e
  have e':vs=(us++[p]).map V.ref:=by
   injection e with e
   injection e with e
   exact e.symm
  have hl:us.length=xs.length:=by simpa using e2
  refine⟨p,us.map V.ref,by rw[e',map_append];rfl,?_,fun H' c=>⟨us,c.is,hl,fun i q y k1 k2=>?_⟩⟩
  ·exact e3 us.length p x (by simp) (by rw[hl];simp)
  ·have hi:=am k1
   have k3:=e3 i q y (by rw[getElem?_append_left hi];exact k1) (by rw[getElem?_append_left (by lia)];exact k2)
   rw[c.oth q (bz k3 e1 (by intro z;cases z))]
   exact k3
end L2
namespace L2
open PySem PySem.Spec PyProof.Rows
structure WkF (H:Hp)(d ld pa ro:Addr)(es:List (Int×Addr)):Prop where
 d0:H d=none
 e0:∀ e∈es,H e.2=none
 l0:H ld=none
 p0:H pa=none
 r0:H ro=none
 le:ld∉es.map (·.2)
 pe:pa∉es.map (·.2)
 re:ro∉es.map (·.2)
 dl:d≠ld
 lp:ld≠pa
 lr:ld≠ro
 pr:pa≠ro
def WkH (ts:List (Int×Int))(S:List (Int×Bool))(H H':Hp)(d ld pa ro:Addr)(es:List (Int×Addr))(path row:List (Int×Bool))(laid:List Int):Prop :=
 ∃ L,ak H H'∧Lv ts S H' d es L laid∧H' ld=some (.dK (kvT laid))∧Row H' pa path∧Row H' ro row
section
variable {ts:List (Int×Int)}{S:List (Int×Bool)}{H H' H2:Hp}{d ld pa ro:Addr}{es:List (Int×Addr)}{path row:List (Int×Bool)}{laid laid':List Int}
theorem WkH.same (h:WkH ts S H H' d ld pa ro es path row laid)(s:ak H' H2):WkH ts S H H2 d ld pa ro es path row laid:=by
 obtain⟨L,h1,h2,h3,h4,h5⟩:=h
 exact⟨L,h1.trans s,h2.same s,s _ _ h3,h4.same s,h5.same s⟩
theorem WkH.took (h:WkH ts S H H' d ld pa ro es path row laid)(fx:WkF H d ld pa ro es)(k:∀ b u,b≠ld→b∉es.map (·.2)→H' b=some u→H2 b=some u){L:Int→List V}(hL:Lv ts S H2 d es L laid')(hl:H2 ld=some (.dK (kvT laid'))):WkH ts S H H2 d ld pa ro es path row laid':=by
 obtain⟨L0,h1,h2,h3,h4,h5⟩:=h
 have nt:∀ b ys,(b=ld∨b∈es.map (·.2))→H' b≠some (.tup ys):=fun b ys c z=>by
  rcases c with c | c
  ·subst c
   rw[h3] at z;cases z
  ·obtain⟨g,hg,eg⟩:=mem_map.mp c
   have:=h2.lsts g hg
   rw[show g.2=b from eg,z] at this
   cases this
 have k':∀ b u,¬ (b=ld∨b∈es.map (·.2))→H' b=some u→H2 b=some u:=fun b u c e=>k b u (fun z=>c (.inl z)) (fun z=>c (.inr z)) e
 refine⟨L,fun b u e=>k b u (fun z=>?_) (fun z=>?_) (h1 _ _ e),hL,hl,h4.kept _ k' (fun c=>c.elim (fun z=>fx.lp z.symm) fx.pe) nt,h5.kept _ k' (fun c=>c.elim (fun z=>fx.lr z.symm) fx.re) nt⟩
 ·rw[z,fx.l0] at e;cases e
 ·obtain⟨g,hg,eg⟩:=mem_map.mp z
  have:=fx.e0 g hg
  rw[show g.2=b from eg,e] at this
  cases this
end
def WkI (ts:List (Int×Int))(S:List (Int×Bool))(B:List Int→Int→Int→Prop)(s e:Int)(H H':Hp)(d ld pa ro:Addr)(es:List (Int×Addr))(sv:V)(μ:Nat):Prop :=
 ∃ (so:Option (Int×Bool)) (path row:List (Int×Bool)) (laid:List Int) (cur b:Int),WkH ts S H H' d ld pa ro es path row laid∧((so=none∧sv=.non)∨∃ p st,so=some st∧sv=.ref p∧H' p=some (.tup (scS st))) ∧
   WI ts S B s e laid (path++so.toList) row cur b∧(so=none→∀ st∈S,(ah ts st).1=cur→st.1∈laid)∧μ=2*(ts.length-laid.length)+path.length+(if so.isSome=true then 2 else 0)
theorem Tl.revC {α:Type}{sc:α→List V}{H H2:Hp}{l:Addr}{xs:List α}{vs:List V}(h:Tl sc H l xs)(e1:H l=some (.lst vs))(c:Chg H l (.lst vs.reverse) H2):Tl sc H2 l xs.reverse:=by
 obtain⟨ps,h1,h2,h3⟩:=h
 rw[h1] at e1
 injection e1 with e1
 injection e1 with e1
 subst e1
 refine⟨ps.reverse,by rw[c.is,map_reverse],by simp[h2],fun i p x k1 k2=>?_⟩
 have hi:i<ps.length:=by have:=am k1;simpa using this
 rw[List.getElem?_reverse hi] at k1
 rw[List.getElem?_reverse (by lia),←h2] at k2
 have e:=h3 _ p x k1 k2
 rw[c.oth p (bz e h1 (by intro z;cases z))]
 exact e
end L2
namespace L2
open PySem PySem.Spec PyProof.Rows
theorem DI.callee (P:Program)(w:World)(base:Heap){K:PySem.W.Frag}{mg:Str→Option Value}{h:Heap}{x:Str}{st:Stmt}{k:Nat}{ps:List Str}{sp:Sp}(d:DI K x st)(X:K.In h)(G:h.Ns mainGlobals mg)
 (hb:∀ (kV doc pm:Value) (an:Option Addr) (cdv ct:Value) (us:List Value),us.length=ps.length→bindArgs (PySem.W.fnOf x x (defArgs st) (defBody st) (defScope st) .none kV doc pm an cdv ct) ⟨us,[]⟩=pure (ps.zip us))
 (ok:∀ {f:Addr} {fd:FuncData},Fun K x x st f fd→bh P w K mg base CX0 k f fd ps sp):aF P w K mg base k x ps sp:=by
 obtain⟨f,od,an,sl,oc,kV,dc,pm,cd,ct,a,l,c,kk⟩:=d
 have F:=qK (st:=st) l c kk
 exact⟨_,_,ok F,PySem.W.mg_of X G a,kk,F.binds hb⟩
end L2
namespace L2
open PySem PySem.Spec PyProof.Rows
theorem walkE {l:PySem.W.OpenLaw}{q:Program}{loose:List Str}{XP:(Str→Option Value)→Heap→Prop}{YP:World→Heap→Prop}{d:DefRec}{k:Nat}{sp:PySem.W.Frag→Sp}{Tl:PySem.W.Frag→Prop}(hn:l.most=some 63)(hdf:d.params.defaults=[])(hr:dh k callerA)
 (hY:∀ (w:World) (h:Heap),YP w h→∃ K:PySem.W.Frag,K.In h∧Tl K)
 (F:∀ (K:PySem.W.Frag),Tl K→∀ (w:World) (mg:Str→Option Value) (fa:Addr) (h:Heap),K.In h→h.Ns mainGlobals mg→mg d.name=some (.ref fa) →
  ∃ fd:FuncData,(∀ (s:Shared) (u:Value),BindsTo s fd ⟨[u],[]⟩ [("_law_script",u)])∧∀ base:Heap,K.In base→base.Ns mainGlobals mg→bh l.prog w K mg base CX0 k fa fd ["_law_script"] (sp K))
 (hsp:∀ (K:PySem.W.Frag) (H:Hp) (a:Addr) (ns:List Int),ns.length≤63→sj H→SqL K H a (ns.map V.int)→sp K [.ref a] H (fun v _=>v=.bl true) fun _ _ _=>False) :
 PySem.W.WalkO q loose XP YP l.row.toRowW d [] (fun f vs=>PySem.call f vs):=by
 intro w s₀ s₁ mg mb G Y
 obtain⟨K,X,fx⟩:=hY w _ Y
 exact q9 (n:=63) (k:=k) (x:="_law_script") (K:=fun _=>K) (YP:=fun _ h=>K.In h) (CX:=fun _=>CX0) (sp:=fun _=>sp K) hn (by decide) hdf hr (fun _ _ x=>x) (F K fx) (fun _ H a ns h1 h2 h3=>hsp K H a ns h1 h2 h3) (fun _ _ _ _ _ z=>z) w s₀ s₁ mg mb G X
end L2
namespace Tk07
open PySem L2
section
variable {P:Program}{w:World}{K:PySem.W.Frag}{mg:Str→Option Value}{base:Heap}
theorem eO:au ["tiles","often","one","other"] ["tiles"] (defScope fJ):=⟨rfl,rfl,rfl,by decide +kernel,rfl,by decide +kernel,by decide +kernel⟩
theorem oR {f:Addr}{fd:FuncData}(F:Fun K "counts" "counts" fJ f fd)(T:Blt mg):bh P w K mg base CX0 1 f fd ["tiles"] kZ:=by
 refine F.ok (k:=0) eO (fun vs H Q E h=>?_) (fun cdv A outer s H vs Q E hr h=>?_)
 ·obtain⟨l,ts,rfl,_⟩:=h
  rfl
 ·obtain⟨l,ts,rfl,hT,h1000,q⟩:=h
  have hu:=aZ hr
  have hu8:=aJ hr
  refine⟨_,(ab (ai (i:=1) eO.nd rfl (Or.inl rfl) dm)
   (ab (bq PassesOwn.never rfl (aE (pv 0)) (da (n:=2) rfl (aT (ao (i:=2) eO.nd rfl (Or.inl rfl)) (aT (ao (i:=3) eO.nd rfl (Or.inl rfl)) c0)))
   (ab (bK hu (pv 1) (pv 2) (al bW (er hu (pv 1) (pv 2) ad ⟨rfl,rfl,rfl,rfl⟩) ad) rfl)
    (af (bK hu (pv 1) (pv 3) (al bW (er hu (pv 1) (pv 3) ad ⟨rfl,rfl,rfl,rfl⟩) ad) rfl))))
   (af (ar (ap (mI rfl) rfl T.sorted bG (aa (qh (pv 1)) ae)))))),?_⟩
  refine fun d H1 n1=>?_
  obtain⟨vs,v0,g⟩:=hT.tg
  have v2:=g.len
  refine⟨_,rfl,l,_,rfl,.inl (n1.same _ _ v0),aX (xs:=vs) (fun i σ H2=>∃ av bv,∃ es:List (Int×Int),σ=[some (.ref l),some (.ref d),av,bv]∧ak H H2∧H2 d=some (.dK (kvE es))∧CI es (flat (ts.take i)))
   ⟨none,none,[],rfl,n1.same,n1.is,by simp,by simp[flat],by simp⟩ (fun i σ H2 _ ⟨_,_,_,_,s,_⟩=>.inl (s _ _ v0)) ?_ ?_⟩
  ·rintro i x σ H2 hx ⟨av,bv,es,rfl,s,hd,ci⟩
   obtain⟨tp,t,rfl,et,htp⟩:=g.get hx
   have hi:=am et
   have hl1:es.length≤2*i:=by
    have h0:=ci.len
    rw[bg,length_take] at h0
    lia
   refine⟨tp,_,rfl,.inl (s _ _ htp),rfl,_,_,rfl,_,_,rfl,rfl,?_⟩
   obtain⟨es1,p1,c1⟩:=ci.put t.1
   obtain⟨es2,p2,c2⟩:=c1.put t.2
   have hl2:es1.length≤2*i+1:=by
    have h0:=c1.len
    rw[length_append,bg,length_take] at h0
    simp at h0
    lia
   refine⟨_,rfl,d,rfl,.inl ⟨_,.inl hd⟩,_,rfl,_,cD.k (k:=Sum.inl t.1) hd,?_⟩
   rw[show (bo (kvE es) (Sum.inl t.1)).getD (V.int 0)=_ from ci.get t.1]
   refine⟨_,_,rfl,rfl,_,rfl,_,rfl,d,_,Sum.inl t.1,rfl,hd,rfl,aw (by unfold kvE;rw[length_map];lia),fun H3 c3=>?_⟩
   rw[p1] at c3
   refine⟨_,rfl,d,rfl,.inl ⟨_,.inl c3.is⟩,_,rfl,_,cD.k (k:=Sum.inl t.2) c3.is,?_⟩
   rw[show (bo (kvE es1) (Sum.inl t.2)).getD (V.int 0)=_ from c1.get t.2]
   refine⟨_,_,rfl,rfl,_,rfl,_,rfl,d,_,Sum.inl t.2,rfl,c3.is,rfl,aw (by unfold kvE;rw[length_map];lia),fun H4 c4=>?_⟩
   rw[p2] at c4
   refine⟨_,_,es2,rfl,c4.same (c3.same s n1.was) n1.was,c4.is,?_⟩
   rw[jy et]
   exact c2
  ·rintro σ H2 ⟨av,bv,es,rfl,s,hd,ci⟩
   rw[v2,take_of_length_le (Nat.le_refl _)] at ci
   refine⟨_,rfl,d,_,rfl,.inl hd,fun v H3 n3=>?_⟩
   refine⟨v,d,es,rfl,n3.is,.inl (n3.same _ _ hd),fun l' fs H4 pf wf hl' s4 hl4 ht4=>?_⟩
   obtain⟨m1,m2,m3⟩:=ci.sorted pf (by rw[pairwise_map];exact wf)
   refine q l' _ H4 ⟨m1,m2⟩ ((s.trans n3.same).free hl') (s.trans (n3.same.trans s4)) ?_
   have e:((fs.map (·.2)).map (·.1)).map (fun m=>(m,aI ts m))=fs.map (·.2):=m3.symm
   rw[e]
   refine⟨fs.map (·.1),by rw[hl4,map_map];rfl,by simp,fun i p x e1 e2=>?_⟩
   rw[getElem?_map] at e1 e2
   cases ef:fs[i]? with
   | none=>rw[ef] at e1;cases e1
   | some f =>
     rw[ef] at e1 e2
     cases e1
     cases e2
     exact ht4 f (mem_of_getElem? ef)
theorem bX:au ["tiles","beside","one","other"] ["tiles"] (defScope cu):=⟨rfl,rfl,rfl,by decide +kernel,rfl,by decide +kernel,by decide +kernel⟩
theorem iW {f:Addr}{fd:FuncData}(F:Fun K "neighbours" "neighbours" cu f fd)(T:Blt mg):bh P w K mg base CX0 1 f fd ["tiles"] su:=by
 refine F.ok (k:=0) bX (fun vs H Q E h=>?_) (fun cdv A outer s H vs Q E hr h=>?_)
 ·obtain⟨l,ts,rfl,_⟩:=h
  rfl
 ·obtain⟨l,ts,rfl,hT,h1000,q⟩:=h
  have hu:=aZ hr
  have hu8:=aJ hr
  refine⟨_,(ab (ai (i:=1) bX.nd rfl (Or.inl rfl) dm)
   (ab (bq PassesOwn.never rfl (aE (pv 0)) (da (n:=2) rfl (aT (ao (i:=2) bX.nd rfl (Or.inl rfl)) (aT (ao (i:=3) bX.nd rfl (Or.inl rfl)) c0)))
   (ab (a7 (f6 (pv 1) (pv 2) (aC ae) ⟨rfl,rfl,rfl,rfl⟩) (pv 3))
    (af (a7 (f6 (pv 1) (pv 3) (aC ae) ⟨rfl,rfl,rfl,rfl⟩) (pv 2)))))
   (af (ar (pv 1))))),?_⟩
  refine fun d H1 n1=>?_
  obtain⟨vs,v0,g⟩:=hT.tg
  have v2:=g.len
  refine⟨_,rfl,l,_,rfl,.inl (n1.same _ _ v0),aX (xs:=vs) (fun i σ H2=>∃ av bv,∃ es:List (Int×Addr),σ=[some (.ref l),some (.ref d),av,bv]∧ak H H2∧Bes H2 d (dir (ts.take i)) es∧∀ e∈es,H e.2=none)
   ⟨none,none,[],rfl,n1.same,⟨n1.is,by simp,by simp,by simp,by simp[dir]⟩,by simp⟩ (fun i σ H2 _ ⟨_,_,_,_,s,_⟩=>.inl (s _ _ v0)) ?_ ?_⟩
  ·rintro i x σ H2 hx ⟨av,bv,es,rfl,s,b,hf⟩
   obtain⟨tp,t,rfl,et,htp⟩:=g.get hx
   have hi:=am et
   have hl1:(dir (ts.take i)).length≤2*i:=by rw[rZ,length_take];lia
   refine⟨tp,_,rfl,.inl (s _ _ htp),rfl,_,_,rfl,_,_,rfl,rfl,?_⟩
   refine og b n1.was s hf (by lia) (fun _ _ q=>⟨_,rfl,q⟩) (fun _ _ q=>⟨_,rfl,q⟩) (fun _ _ q=>⟨_,rfl,q⟩) fun H3 es3 b3 s3 hf3=>?_
   dsimp only
   refine og b3 n1.was s3 hf3 (by rw[length_append,length_singleton];lia) (fun _ _ q=>⟨_,rfl,q⟩) (fun _ _ q=>⟨_,rfl,q⟩) (fun _ _ q=>⟨_,rfl,q⟩) fun H4 es4 b4 s4 hf4=>?_
   refine⟨_,_,es4,rfl,s4,?_,hf4⟩
   rw[qN et]
   exact b4
  ·rintro σ H2 ⟨av,bv,es,rfl,s,b,hf⟩
   rw[v2,take_of_length_le (Nat.le_refl _)] at b
   exact⟨_,rfl,q d es H2 n1.was s b⟩
theorem bI:au ["beside","start","found","waiting","mark","near"] ["beside","start"] (defScope cV):=⟨rfl,rfl,rfl,by decide +kernel,rfl,by decide +kernel,by decide +kernel⟩
theorem kc {f:Addr}{fd:FuncData}(F:Fun K "part_with" "part_with" cV f fd)(T:Blt mg):bh P w K mg base CX0 1 f fd ["beside","start"] pW:=by
 refine F.ok (k:=0) bI (fun vs H Q E h=>?_) (fun cdv A outer s H vs Q E hr h=>?_)
 ·obtain⟨d,ts,es,s,rfl,_⟩:=h
  rfl
 ·obtain⟨d,ts,es,s,rfl,b,h1000,hsf,q⟩:=h
  have hu:=aZ hr
  have hu8:=aJ hr
  refine⟨_,(ab (ai (i:=2) bI.nd rfl (Or.inl rfl) (lq (pv 1) ck))
   (ab (ai (i:=3) bI.nd rfl (Or.inl rfl) (aC (aa (pv 1) ae)))
   (ab (ee PassesOwn.never (aH nN (ap bR rfl T.len ba (aa (pv 3) ae)) ad (aN _))
   (ab (ai (i:=4) bI.nd rfl (Or.inl rfl) (j4 (pv 3)))
    (af (bq PassesOwn.never rfl (aE (j7 hu (pv 0) (pv 4) (fun _ _=>rfl))) (ao (i:=5) bI.nd rfl (Or.inl rfl))
    (af (bf (dZ (f9 hu (pv 5) (pv 2))) (ab (bK hu (pv 2) (pv 5) ck rfl)
     (af (a7 (pv 3) (pv 5)))) aM))))))
   (af (ar (ap (eM rfl) rfl T.sorted bG (aa (pv 2) ae))))))),?_⟩
  refine fun f H1 n1=>⟨_,rfl,Sum.inl s,rfl,n1.is,fun H2 c2=>?_⟩
  have s2:=c2.same n1.same n1.was
  refine⟨_,rfl,(by show 1≤sizeLine;decide),fun wl H3 n3=>?_⟩
  have hfw:f≠wl:=n3.ne c2.is
  have hw0:H wl=none:=n3.free s2
  have bound:∀ ks:List Int,ks.Nodup→(∀ x∈ks,aq ts s x)→ks.length≤2*ts.length+1:=fun ks kn hr=>by
   have:=aD (b:=s :: flat ts) kn fun x hx=>(hr x hx).among
   rwa [length_cons,bg] at this
  refine⟨fun m σ H4=>∃ (ks ws:List Int),∃ mv nv,σ=[some (.ref d),some (.int s),some (.ref f),some (.ref wl),mv,nv]∧ak H H4∧H4 f=some (.dK (kvT ks))∧H4 wl=some (.lst (ws.map V.int))∧ks.Nodup∧s∈ks∧(∀ x∈ks,aq ts s x)∧(∀ x∈ws,x∈ks)∧(∀ x∈ks,x∉ws→∀ y∈nb (dir ts) x,y∈ks)∧ws.length≤ks.length∧m=2*ts.length+1+ws.length-ks.length,
   ⟨_,[s],[s],none,none,rfl,s2.trans n3.same,n3.same _ _ c2.is,n3.is,by simp,by simp,by simp[aq.refl],by simp,by simp,by simp,rfl⟩,?_⟩
  rintro m σ H4 ⟨ks,ws,mv,nv,rfl,s4,hf4,hw4,kn,hs,hr,hwk,hnb,hwl,rfl⟩
  have hkl:=bound ks kn hr
  refine⟨_,rfl,wl,_,rfl,Sq.lst hw4,_,_,rfl,rfl,_,rfl,?_⟩
  refine cc (fun c=>?_) (fun c=>?_)
  ·have c':(((ws.map V.int).length:Nat):Int)>0:=of_decide_eq_true c
   rw[length_map] at c'
   obtain⟨ws',mk,rfl⟩:∃ ws' mk,ws=ws'++[mk]:=by
    rcases eq_nil_or_concat ws with e | ⟨u,v,e⟩
    ·rw[e] at c';simp at c'
    ·exact⟨u,v,by simpa using e⟩
   have hmk:mk∈ks:=hwk mk (by simp)
   have hmf:mk∈(dir ts).map (·.1):=by rw[l8];exact (hr mk hmk).marks hsf
   obtain⟨nq,hnq,hval,hq0⟩:=b.get hmf
   rw[length_append,length_singleton] at hwl
   refine⟨fun σ' H'=>∃ (ks2 ws2:List Int),∃ mv nv,σ'=[some (.ref d),some (.int s),some (.ref f),some (.ref wl),mv,nv]∧ak H H'∧H' f=some (.dK (kvT ks2))∧H' wl=some (.lst (ws2.map V.int))∧ks2.Nodup∧s∈ks2∧(∀ x∈ks2,aq ts s x)∧(∀ x∈ws2,x∈ks2)∧(∀ x∈ks2,x∉ws2→∀ y∈nb (dir ts) x,y∈ks2)∧ks2.length+ws'.length=ks.length+ws2.length,
    fun σ' H' ⟨ks2,ws2,mv,nv,e,h1,h2,h3,h4,h5,h6,h7,h8,h9⟩=>⟨2*ts.length+1+ws2.length-ks2.length,?_,ks2,ws2,mv,nv,e,h1,h2,h3,h4,h5,h6,h7,h8,by lia,rfl⟩,?_⟩
   ·have:=bound ks2 h4 h6
    rw[length_append,length_singleton]
    lia
   refine⟨_,rfl,wl,_,.int mk,rfl,hw4,?_,fun H5 c5=>?_⟩
   ·rw[map_append]
    simp
   rw[map_append,show ([mk]:List Int).map V.int=[V.int mk] from rfl,List.dropLast_concat] at c5
   have s5:ak H H5:=c5.same s4 hw0
   have hf5:H5 f=some (.dK (kvT ks)):=by rw[c5.oth f hfw];exact hf4
   refine⟨_,rfl,_,rfl,d,_,rfl,(by rw[←hval];exact cD.k (k:=Sum.inl mk) (s5 _ _ b.at_)),nq,_,rfl,.inl (s5 _ _ hq0),aX (xs:=(nb (dir ts) mk).map V.int) (fun j σ H6=>∃ (ks2 ws2:List Int),∃ nv,σ=[some (.ref d),some (.int s),some (.ref f),some (.ref wl),some (.int mk),nv]∧ak H H6∧H6 f=some (.dK (kvT ks2))∧H6 wl=some (.lst (ws2.map V.int))∧ks2.Nodup∧s∈ks2∧(∀ x∈ks2,aq ts s x)∧(∀ x∈ws2,x∈ks2)∧(∀ x∈ks2,x≠mk→x∉ws2→∀ y∈nb (dir ts) x,y∈ks2)∧mk∈ks2∧(∀ y∈(nb (dir ts) mk).take j,y∈ks2)∧ks2.length+ws'.length=ks.length+ws2.length)
    ⟨ks,ws',_,rfl,s5,hf5,c5.is,kn,hs,hr,fun x hx=>hwk x (mem_append_left _ hx),fun x hx hm hn=>hnb x hx (fun z=>(mem_append.mp z).elim hn fun z=>hm (mem_singleton.mp z)),hmk,by simp,rfl⟩ (fun j σ H6 _ ⟨_,_,_,_,s6,_⟩=>.inl (s6 _ _ hq0)) ?_ ?_⟩
   ·rintro j x σ H6 hx ⟨ks2,ws2,nv,rfl,s6,hf6,hw6,kn2,hs2,hr2,hwk2,hnb2,hmk2,htk2,hln⟩
    obtain⟨y,ey,rfl⟩:=cA hx
    have hyn:y∈nb (dir ts) mk:=mem_of_getElem? ey
    have htk:(nb (dir ts) mk).take (j+1)=(nb (dir ts) mk).take j++[y]:=by rw[take_add_one,ey];rfl
    have hkl2:=bound ks2 kn2 hr2
    refine⟨_,rfl,_,rfl,f,_,rfl,cD.k (k:=Sum.inl y) hf6,_,rfl,?_⟩
    rw[fO]
    refine cc (fun c=>?_) (fun c=>?_)
    ·have hy:y∉ks2:=fun z=>by rw[decide_eq_true z] at c;cases c
     refine⟨_,rfl,_,rfl,f,_,Sum.inl y,rfl,hf6,rfl,aw (by rw[dF];lia),fun H7 c7=>?_⟩
     rw[fP,kl hy] at c7
     have hw7:H7 wl=some (.lst (ws2.map V.int)):=by rw[c7.oth wl hfw.symm];exact hw6
     refine⟨_,rfl,wl,_,rfl,hw7,_,rfl,_,hw7,aw (by rw[length_map];lia),fun H8 c8=>?_⟩
     refine⟨ks2++[y],ws2++[y],_,rfl,c8.same (c7.same s6 n1.was) hw0,by rw[c8.oth f hfw];exact c7.is,by rw[c8.is,map_append];rfl,kl hy▸eW kn2 y,mem_append_left _ hs2,fun x hx=>?_,fun x hx=>?_,fun x hx hm hn u hu=>?_,mem_append_left _ hmk2,fun u hu=>?_,by simp only[length_append,length_singleton];lia⟩
     ·rcases mem_append.mp hx with hx | hx
      ·exact hr2 x hx
      ·rw[mem_singleton.mp hx];exact p8 (hr2 mk hmk2) hyn
     ·rcases mem_append.mp hx with hx | hx
      ·exact mem_append_left _ (hwk2 x hx)
      ·exact mem_append_right _ hx
     ·rcases mem_append.mp hx with hx | hx
      ·exact mem_append_left _ (hnb2 x hx hm (fun z=>hn (mem_append_left _ z)) u hu)
      ·exact absurd (mem_append_right _ hx) hn
     ·rw[htk] at hu
      rcases mem_append.mp hu with hu | hu
      ·exact mem_append_left _ (htk2 u hu)
      ·exact mem_append_right _ hu
    ·have hy:y∈ks2:=by
      by_cases z:y∈ks2
      ·exact z
      ·exact absurd (by rw[decide_eq_false z];rfl) c
     refine⟨ks2,ws2,_,rfl,s6,hf6,hw6,kn2,hs2,hr2,hwk2,hnb2,hmk2,fun u hu=>?_,hln⟩
     rw[htk] at hu
     rcases mem_append.mp hu with hu | hu
     ·exact htk2 u hu
     ·rw[mem_singleton.mp hu];exact hy
   ·rintro σ H6 ⟨ks2,ws2,nv,rfl,s6,hf6,hw6,kn2,hs2,hr2,hwk2,hnb2,hmk2,htk2,hln⟩
    rw[length_map,take_of_length_le (Nat.le_refl _)] at htk2
    refine⟨ks2,ws2,_,_,rfl,s6,hf6,hw6,kn2,hs2,hr2,hwk2,fun x hx hn=>?_,hln⟩
    by_cases z:x=mk
    ·rw[z];exact htk2
    ·exact hnb2 x hx z hn
  ·have hw:ws=[]:=by
    cases ws with
    | nil=>rfl
    | cons u v=>exact absurd (decide_eq_true (by rw[length_map,length_cons];lia)) c
   subst hw
   refine⟨_,rfl,f,kvT ks,ks,rfl,.inl hf4,lR ks,fun l' ms H5 pm wm n5=>?_⟩
   exact q l' ms H5 ⟨cF wm (pm.nodup_iff.mpr kn),fun x=>pm.mem_iff.trans (jr hs hr (rj fun x hx=>hnb x hx (by simp)) x)⟩ (n5.free s4) (s4.trans n5.same) n5.is
theorem bp:au ["tiles","beside","parts","placed","mark","part","member"] ["tiles"] (defScope dy):=⟨rfl,rfl,rfl,by decide +kernel,rfl,by decide +kernel,by decide +kernel⟩
theorem lC {f:Addr}{fd:FuncData}(F:Fun K "parts_of" "parts_of" dy f fd)(T:Blt mg)(c_neighbours:aF P w K mg base 1 "neighbours" ["tiles"] su)(c_part_with:aF P w K mg base 1 "part_with" ["beside","start"] pW):bh P w K mg base CX0 2 f fd ["tiles"] nD:=by
 refine F.ok (k:=1) bp (fun vs H Q E h=>?_) (fun cdv A outer s H vs Q E hr h=>?_)
 ·obtain⟨l,ts,rfl,_⟩:=h
  rfl
 ·obtain⟨l,ts,rfl,hT,h1000,q⟩:=h
  have hu:=aZ hr
  have hu8:=aJ hr
  refine⟨_,(ab (ai (i:=1) bp.nd rfl (Or.inl rfl) (aj c_neighbours (hr.mono (by decide)) rfl (aa (pv 0) ae)))
   (ab (ai (i:=2) bp.nd rfl (Or.inl rfl) (aC ae))
   (ab (ai (i:=3) bp.nd rfl (Or.inl rfl) dm)
   (ab (bq PassesOwn.never rfl (aE (ap (eM rfl) rfl T.sorted bG (aa (pv 1) ae))) (ao (i:=4) bp.nd rfl (Or.inl rfl))
   (af (bf (dZ (f9 hu (pv 4) (pv 3))) (ab (ai (i:=5) bp.nd rfl (Or.inl rfl) (aj c_part_with (hr.mono (by decide)) rfl (aa (pv 1) (aa (pv 4) ae))))
    (ab (a7 (pv 2) (pv 5))
    (af (bq PassesOwn.never rfl (aE (pv 5)) (ao (i:=6) bp.nd rfl (Or.inl rfl))
    (af (bK hu (pv 3) (pv 6) ck rfl)))))) aM)))
   (af (ar (pv 2))))))),?_⟩
  refine⟨_,rfl,l,ts,rfl,hT,h1000,fun d es H1 hd0 s1 b=>?_⟩
  refine⟨(by show 0≤sizeLine;decide),fun lp H2 n2=>?_⟩
  refine fun pd H3 n3=>?_
  have b3:=(b.same n2.same).same n3.same
  refine⟨_,rfl,d,kvB es,es.map (·.1),rfl,.inl b3.at_,(by unfold kvB;rw[map_map,map_map];rfl),fun lk ms H4 pm wm n4=>?_⟩
  have im:aR ts ms:=⟨cF wm (pm.nodup_iff.mpr b.keys),fun x=>pm.mem_iff.trans ((b.mem x).trans (by rw[l8]))⟩
  have hml:=im.len
  have hlp1:H1 lp=none:=n2.was
  have hpd1:H1 pd=none:=n2.same.free n3.was
  have hlkp:lp≠lk:=n4.ne (n3.same _ _ n2.is)
  have hdlk:pd≠lk:=n4.ne n3.is
  have hdlp:lp≠pd:=n3.ne n2.is
  refine⟨lk,_,rfl,.inl n4.is,aX (xs:=ms.map V.int) (fun i σ H5=>∃ mv pv xv,∃ (ps:List Addr) (Ps:List (List Int)) (pk:List Int),σ=[some (.ref l),some (.ref d),some (.ref lp),some (.ref pd),mv,pv,xv]∧ak H1 H5∧H5 lk=some (.lst (ms.map V.int))∧Lol H5 lp ps Ps∧lp∉ps∧H5 pd=some (.dK (kvT pk))∧pk.Nodup∧PrI ts ms i Ps pk)
   ⟨none,none,none,[],[],[],rfl,(n2.same.trans n3.same).trans n4.same,n4.is,Lol.nil (n4.same _ _ (n3.same _ _ n2.is)),by simp,n4.same _ _ n3.is,by simp,⟨by simp,by simp[bA],by simp,by simp,by simp⟩⟩ (fun i σ H5 _ ⟨_,_,_,_,_,_,_,_,h,_⟩=>.inl h) ?_ ?_⟩
  ·rintro i x σ H5 hx ⟨mv,pv,xv,ps,Ps,pk,rfl,s5,hlk,lol,hnp,hpd,kn,pi⟩
   obtain⟨m,em,rfl⟩:=cA hx
   have hmf:m∈flat ts:=(im.2 m).mp (mem_of_getElem? em)
   have among:∀ x,x∈pk→x∈flat ts:=fun x hx=>by
    obtain⟨P,hP,hx'⟩:=mem_flatten.mp ((pi.got x).mp hx)
    obtain⟨a,_,h2,h3⟩:=pi.part P hP
    exact ((h2.2 x).mp hx').marks ((im.2 a).mp (List.mem_of_mem_take h3))
   refine⟨_,rfl,_,rfl,pd,_,rfl,cD.k (k:=Sum.inl m) hpd,_,rfl,?_⟩
   rw[fO]
   refine cc (fun c=>?_) (fun c=>?_)
   ·have hm:m∉pk:=fun z=>by rw[decide_eq_true z] at c;cases c
    refine⟨_,rfl,_,rfl,d,ts,es,m,rfl,b.same s5,h1000,hmf,fun pl P H6 hP hpl s6 hp6=>?_⟩
    have hplp:pl≠lp:=fun z=>by have h:=lol.1;rw[←z,hpl] at h;cases h
    have hplk:pl≠lk:=fun z=>by have h:=hlk;rw[←z,hpl] at h;cases h
    have hpld:pl≠pd:=fun z=>by have h:=hpd;rw[←z,hpl] at h;cases h
    have lol6:=lol.same s6
    have hPl:Ps.length≤2*ts.length:=by
     have h1:=eJ (Ps:=Ps) fun P hP=>by
      obtain⟨a,h1,_⟩:=pi.part P hP
      exact⟨a,h1⟩
     have h2:=aD (b:=flat ts) pi.once fun x hx=>among x ((pi.got x).mpr hx)
     rw[bg] at h2
     lia
    refine⟨_,rfl,lp,_,rfl,lol6.1,_,rfl,_,lol6.1,aw (by rw[length_map,lol6.2.1];lia),fun H7 c7=>?_⟩
    have lol7:=lol6.snoc hnp hp6 hplp c7
    have s7:ak H1 H7:=c7.same (s5.trans s6) hlp1
    have hp7:H7 pl=some (.lst (P.map V.int)):=by rw[c7.oth pl hplp];exact hp6
    have hlk7:H7 lk=some (.lst (ms.map V.int)):=by rw[c7.oth lk hlkp.symm];exact s6 _ _ hlk
    have hpd7:H7 pd=some (.dK (kvT pk)):=by rw[c7.oth pd hdlp.symm];exact s6 _ _ hpd
    refine⟨_,rfl,pl,_,rfl,.inl hp7,aX (xs:=P.map V.int) (fun j σ H8=>∃ xv,∃ pk':List Int,σ=[some (.ref l),some (.ref d),some (.ref lp),some (.ref pd),some (.int m),some (.ref pl),xv]∧ak H1 H8∧H8 lk=some (.lst (ms.map V.int))∧H8 pl=some (.lst (P.map V.int))∧Lol H8 lp (ps++[pl]) (Ps++[P])∧H8 pd=some (.dK (kvT pk'))∧pk'.Nodup∧∀ x,x∈pk'↔x∈pk∨x∈P.take j)
     ⟨_,pk,rfl,s7,hlk7,hp7,lol7,hpd7,kn,by simp⟩ (fun j σ H8 _ ⟨_,_,_,_,_,h,_⟩=>.inl h) ?_ ?_⟩
    ·rintro j x σ H8 hx ⟨xv,pk',rfl,s8,hlk8,hp8,lol8,hpd8,kn8,hm8⟩
     obtain⟨y,ey,rfl⟩:=cA hx
     have htk:P.take (j+1)=P.take j++[y]:=by rw[take_add_one,ey];rfl
     have hl8:pk'.length≤2*ts.length:=by
      have h2:=aD (b:=flat ts) kn8 fun x hx=>by
       rcases (hm8 x).mp hx with z | z
       ·exact among x z
       ·exact ((hP.2 x).mp (List.mem_of_mem_take z)).marks hmf
      rwa [bg] at h2
     refine⟨_,rfl,_,rfl,pd,_,Sum.inl y,rfl,hpd8,rfl,aw (by rw[dF];lia),fun H9 c9=>?_⟩
     rw[fP] at c9
     refine⟨_,ins pk' y,rfl,c9.same s8 hpd1,by rw[c9.oth lk hdlk.symm];exact hlk8,by rw[c9.oth pl hpld];exact hp8,lol8.oth c9 hpd8 (fun xs z=>by cases z),c9.is,eW kn8 y,fun x=>?_⟩
     rw[fR,hm8 x,htk,mem_append,mem_singleton,or_assoc]
    ·rintro σ H8 ⟨xv,pk',rfl,s8,hlk8,hp8,lol8,hpd8,kn8,hm8⟩
     rw[length_map,take_of_length_le (Nat.le_refl _)] at hm8
     refine⟨_,_,_,ps++[pl],Ps++[P],pk',rfl,s8,hlk8,lol8,fun z=>?_,hpd8,kn8,pi.add im em hm hP hm8⟩
     rcases mem_append.mp z with z | z
     ·exact hnp z
     ·exact hplp (mem_singleton.mp z).symm
   ·have hm:m∈pk:=by
     by_cases z:m∈pk
     ·exact z
     ·exact absurd (by rw[decide_eq_false z];rfl) c
    exact⟨_,_,_,ps,Ps,pk,rfl,s5,hlk,lol,hnp,hpd,kn,pi.skip em hm⟩
  ·rintro σ H5 ⟨mv,pv,xv,ps,Ps,pk,rfl,s5,hlk,lol,hnp,hpd,kn,pi⟩
   rw[length_map] at pi
   exact⟨_,rfl,q lp ps Ps H5 (pi.done im (Nat.le_refl _)) (s1.free hlp1) (s1.trans s5) lol⟩
theorem lb:au ["tiles","number"] ["tiles","number"] (defScope dA):=⟨rfl,rfl,rfl,by decide +kernel,rfl,by decide +kernel,by decide +kernel⟩
theorem lG {f:Addr}{fd:FuncData}(F:Fun K "has_tile" "has_tile" dA f fd)(T:Blt mg):bh P w K mg base CX0 1 f fd ["tiles","number"] sA:=by
 refine F.ok (k:=0) lb (fun vs H Q E h=>?_) (fun cdv A outer s H vs Q E hr h=>?_)
 ·obtain⟨l,ts,n,rfl,_⟩:=h
  rfl
 ·obtain⟨l,ts,n,rfl,hT,q⟩:=h
  have hu:=aZ hr
  have hu8:=aJ hr
  refine⟨_,(af (ar (ic (eT ur (pv 1) ad (aN _)) (j5 (eT lw (pv 1) (ap bR rfl T.len ba (aa (pv 0) ae)) (aN _)))))),?_⟩
  obtain⟨vs,e1,e2⟩:=hT.len
  refine⟨_,rfl,_,_,rfl,rfl,_,rfl,?_⟩
  refine cc (fun c=>?_) (fun c=>?_)
  ·have c':(0:Int)≤n:=of_decide_eq_true c
   refine⟨_,rfl,_,rfl,l,_,rfl,Sq.lst e1,_,_,rfl,rfl,?_⟩
   have e:decide (inT ts n)=decide (n<((vs.length:Nat):Int)):=gT (by unfold inT;rw[e2];exact⟨fun z=>z.2,fun z=>⟨c',z⟩⟩)
   rw[e] at q
   exact q
  ·have c':¬ (0:Int)≤n:=fun z=>c (decide_eq_true z)
   rw[decide_eq_false (show ¬ inT ts n from fun z=>c' z.1)] at q
   exact q
theorem lf:au ["tiles","step","tile"] ["tiles","step"] (defScope gM):=⟨rfl,rfl,rfl,by decide +kernel,rfl,by decide +kernel,by decide +kernel⟩
theorem qr {f:Addr}{fd:FuncData}(F:Fun K "faces" "faces" gM f fd)(T:Blt mg)(c_has_tile:aF P w K mg base 1 "has_tile" ["tiles","number"] sA):bh P w K mg base CX0 2 f fd ["tiles","step"] jT:=by
 refine F.ok (k:=1) lf (fun vs H Q E h=>?_) (fun cdv A outer s H vs Q E hr h=>?_)
 ·obtain⟨l,p,ts,st,rfl,_⟩:=h
  rfl
 ·obtain⟨l,p,ts,st,rfl,hT,hp,hin,q⟩:=h
  have hu:=aZ hr
  have hu8:=aJ hr
  refine⟨_,(ab (bf (g9 (dB (aj c_has_tile (hr.mono (by decide)) rfl (aa (pv 0) (aa (aA aY (pv 1) ad (fun _ _=>rfl)) ae))))) (af qc) aM)
   (ab (ai (i:=2) lf.nd rfl (Or.inl rfl) (aA aY (pv 0) (aA aY (pv 1) ad (fun _ _=>rfl)) (fun _ _=>rfl)))
   (ab (bf (dB (aA aY (pv 1) ad (fun _ _=>rfl))) (af (ar (bM (aa (aA aY (pv 2) ad (fun _ _=>rfl)) (aa (aA aY (pv 2) ad (fun _ _=>rfl)) ae))))) aM)
   (af (ar (bM (aa (aA aY (pv 2) ad (fun _ _=>rfl)) (aa (aA aY (pv 2) ad (fun _ _=>rfl)) ae)))))))),?_⟩
  obtain⟨ps,tp,t,e1,e2,e3,e4,e5⟩:=hT.atI hin.1 hin.2
  have ht:ah ts st=dN t st.2:=by
   unfold ah
   rw[getD_eq_getElem?_getD,e4]
   rfl
  refine⟨_,rfl,_,rfl,p,_,_,_,rfl,rfl,Sq.tup hp,rfl,l,ts,st.1,rfl,hT,_,rfl,?_⟩
  refine sG hin ?_
  refine⟨_,rfl,_,rfl,p,_,_,_,rfl,rfl,Sq.tup hp,rfl,l,_,_,_,rfl,rfl,Sq.lst e1,e3,?_⟩
  refine⟨_,rfl,p,_,_,_,rfl,rfl,Sq.tup hp,rfl,_,rfl,?_⟩
  refine cc (fun c=>?_) (fun c=>?_)
  ·refine⟨_,rfl,tp,_,_,_,rfl,rfl,Sq.tup e5,rfl,_,rfl,tp,_,_,_,rfl,rfl,Sq.tup e5,rfl,(by show 2≤sizeLine;decide),fun r H' n=>?_⟩
   refine q r H' ?_
   rw[ht]
   unfold dN
   rw[if_pos c]
   exact n
  ·refine⟨_,rfl,tp,_,_,_,rfl,rfl,Sq.tup e5,rfl,_,rfl,tp,_,_,_,rfl,rfl,Sq.tup e5,rfl,(by show 2≤sizeLine;decide),fun r H' n=>?_⟩
   refine q r H' ?_
   rw[ht]
   unfold dN
   rw[if_neg c]
   exact n
theorem df:au ["tiles","steps","number"] ["tiles"] (defScope cw):=⟨rfl,rfl,rfl,by decide +kernel,rfl,by decide +kernel,by decide +kernel⟩
theorem iX {f:Addr}{fd:FuncData}(F:Fun K "free_steps" "free_steps" cw f fd)(T:Blt mg):bh P w K mg base CX0 1 f fd ["tiles"] nH:=by
 refine F.ok (k:=0) df (fun vs H Q E h=>?_) (fun cdv A outer s H vs Q E hr h=>?_)
 ·obtain⟨l,ts,rfl,_⟩:=h
  rfl
 ·obtain⟨l,ts,rfl,hT,h3000,q⟩:=h
  have hu:=aZ hr
  have hu8:=aJ hr
  refine⟨_,(ab (ai (i:=1) df.nd rfl (Or.inl rfl) (aC ae))
   (ab (bq PassesOwn.never rfl (cH rfl T.range (aa (ap bR rfl T.len ba (aa (pv 0) ae)) ae)) (ao (i:=2) df.nd rfl (Or.inl rfl))
   (ab (a7 (pv 1) (bM (aa (pv 2) (aa ck ae))))
    (af (a7 (pv 1) (bM (aa (pv 2) (aa ck ae)))))))
   (af (ar (pv 1))))),?_⟩
  refine⟨(by show 0≤sizeLine;decide),fun p H1 m1=>?_⟩
  obtain⟨vs,v1,v2⟩:=hT.len
  refine⟨_,rfl,l,_,rfl,Sq.lst (m1.same _ _ v1),_,rfl,(by lia),(by lia),?_⟩
  rw[v2,Int.toNat_natCast]
  refine gf (fun i σ H2=>∃ nv,σ=[some (.ref l),some (.ref p),nv]∧ak H H2∧Row H2 p (fe i)) ⟨none,rfl,m1.same,Tl.nil m1.is⟩ ?_ ?_
  ·rintro i σ H2 hi ⟨nv,rfl,s,g⟩
   have ei:(0+(i:Int))=(i:Int):=by lia
   obtain⟨vs2,w1,w2⟩:=g.len
   have hfl:=jx i
   refine⟨_,rfl,p,_,rfl,w1,?_⟩
   refine⟨_,rfl,(by show 2≤sizeLine;decide),fun tp H3 n3=>?_⟩
   have e3:H3 tp=some (.tup (scS ((i:Int),true))):=by rw[←ei];exact n3.is
   obtain⟨ws,a1,a2,a3⟩:=(g.same n3.same).snoc e3
   refine⟨_,a1,aw (by lia),fun H4 c4=>?_⟩
   have g4:=a3 H4 c4
   obtain⟨vs4,b1,b2⟩:=g4.len
   refine⟨_,rfl,p,_,rfl,b1,?_⟩
   refine⟨_,rfl,(by show 2≤sizeLine;decide),fun tq H5 n5=>?_⟩
   have e5:H5 tq=some (.tup (scS ((i:Int),false))):=by rw[←ei];exact n5.is
   obtain⟨us,d1,d2,d3⟩:=(g4.same n5.same).snoc e5
   refine⟨_,d1,aw (by rw[d2,length_append,length_singleton];lia),fun H6 c6=>?_⟩
   refine⟨_,rfl,c6.same ((c4.same (s.trans n3.same) m1.was).trans n5.same) m1.was,?_⟩
   rw[iA]
   exact d3 H6 c6
  ·rintro σ H2 ⟨nv,rfl,s,g⟩
   exact⟨_,rfl,q p H2 m1.was s g⟩
theorem cf:au ["tiles","steps","leaving","step"] ["tiles","steps"] (defScope bJ):=⟨rfl,rfl,rfl,by decide +kernel,rfl,by decide +kernel,by decide +kernel⟩
theorem gA {f:Addr}{fd:FuncData}(F:Fun K "by_left_mark" "by_left_mark" bJ f fd)(T:Blt mg)(c_faces:aF P w K mg base 2 "faces" ["tiles","step"] jT):bh P w K mg base CX0 3 f fd ["tiles","steps"] k7:=by
 refine F.ok (k:=2) cf (fun vs H Q E h=>?_) (fun cdv A outer s H vs Q E hr h=>?_)
 ·obtain⟨t,r,ts,S,rfl,_⟩:=h
  rfl
 ·obtain⟨t,r,ts,S,rfl,hT,hR,h9000,hin,q⟩:=h
  have hu:=aZ hr
  have hu8:=aJ hr
  refine⟨_,(ab (ai (i:=2) cf.nd rfl (Or.inl rfl) dm)
   (ab (bq PassesOwn.never rfl (aE (pv 1)) (ao (i:=3) cf.nd rfl (Or.inl rfl))
   (af (a7 (f6 (pv 2) (aA aY (aj c_faces (hr.mono (by decide)) rfl (aa (pv 0) (aa (pv 3) ae))) ad (fun _ _=>rfl)) (aC ae) ⟨rfl,rfl,rfl,rfl⟩) (pv 3))))
   (af (ar (pv 2))))),?_⟩
  refine fun d H1 n1=>?_
  obtain⟨vs,v0,g⟩:=hR.tg
  have v2:=g.len
  refine⟨_,rfl,r,_,rfl,.inl (n1.same _ _ v0),aX (xs:=vs) (fun i σ H2=>∃ (sv:Option V) (qs:List (Int×V)) (es:List (Int×Addr)),σ=[some (.ref t),some (.ref r),some (.ref d),sv]∧ak H H2∧mw H2 d qs es∧(∀ e∈es,H e.2=none)∧qs.length=i∧∀ (j:Nat) q st,qs[j]? = some q→S[j]? = some st→q.1=(ah ts st).1∧∃ p,q.2=.ref p∧H p=some (.tup (scS st)))
   ⟨none,[],[],rfl,n1.same,⟨n1.is,by simp,by simp,by simp,by simp⟩,by simp,rfl,by simp⟩ (fun i σ H2 _ ⟨_,_,_,_,s,_⟩=>.inl (s _ _ v0)) ?_ ?_⟩
  ·rintro i x σ H2 hx ⟨sv,qs,es,rfl,s,b,hf,hql,hqs⟩
   obtain⟨sp,st,rfl,est,hsp⟩:=g.get hx
   have hi:=am est
   have hst:=hin st (mem_of_getElem? est)
   refine qT (x:=(ah ts st).1) (y:=.ref sp) b n1.was s hf (by lia) (fun Q q=>⟨_,rfl,q⟩) (fun Q q=>?_) (fun H Q q=>⟨_,rfl,q⟩) fun H3 es3 b3 s3 hf3 tk3=>?_
   ·exact⟨_,rfl,_,rfl,t,sp,ts,st,rfl,hT.same s,s _ _ hsp,hst,fun f H4 n4=>⟨f,_,_,_,rfl,rfl,Sq.tup n4.is,rfl,q H4 n4.same⟩⟩
   ·refine⟨_,_,es3,rfl,s3,b3,hf3,by simp[hql],fun j q' st' h1 h2=>?_⟩
    by_cases hj:j<qs.length
    ·rw[getElem?_append_left hj] at h1
     exact hqs j q' st' h1 h2
    ·have ej:j=qs.length:=by
      have:=am h1
      simp at this
      lia
     subst ej
     rw[hql,est] at h2
     cases h2
     have e:q'=((ah ts st).1,V.ref sp):=by simpa using h1.symm
     subst e
     exact⟨rfl,sp,rfl,hsp⟩
  ·rintro σ H2 ⟨sv,qs,es,rfl,s,b,hf,hql,hqs⟩
   rw[v2] at hql
   refine⟨_,rfl,q d es (nbV qs) H2 n1.was hf s ⟨b.at_,b.keys,b.adrs,b.lsts,fun m hm=>?_,fun m v hv=>?_,fun st hst=>.inr ?_⟩⟩
   ·unfold nbV
    rw[filter_eq_nil_iff.mpr,map_nil]
    intro q' hq z
    exact hm ((b.mem m).mpr (mem_map.mpr ⟨q',hq,of_decide_eq_true z⟩))
   ·obtain⟨j,hj⟩:=mem_iff_getElem?.mp (nP.mp hv)
    have hjl:=am hj
    have hjS:j<S.length:=by lia
    obtain⟨e1,p,e2,e3⟩:=hqs j _ _ hj (getElem?_eq_getElem hjS)
    exact⟨p,S[j],e2,s _ _ e3,getElem_mem _,e1.symm⟩
   ·obtain⟨j,hj⟩:=mem_iff_getElem?.mp hst
    have hjl:=am hj
    have hjq:j<qs.length:=by lia
    obtain⟨e1,p,e2,e3⟩:=hqs j _ _ (getElem?_eq_getElem hjq) hj
    refine⟨p,nP.mpr ?_,s _ _ e3⟩
    rw[←e1,←e2]
    exact getElem_mem _
theorem dw:au ["leaving","mark","laid","choices","step"] ["leaving","mark","laid"] (defScope cU):=⟨rfl,rfl,rfl,by decide +kernel,rfl,by decide +kernel,by decide +kernel⟩
theorem kb {f:Addr}{fd:FuncData}(F:Fun K "take_step" "take_step" cU f fd)(T:Blt mg):bh P w K mg base CX0 1 f fd ["leaving","mark","laid"] pU:=by
 refine F.ok (k:=0) dw (fun vs H Q E h=>?_) (fun cdv A outer s H vs Q E hr h=>?_)
 ·obtain⟨d,ld,m,ts,S,es,L,laid,rfl,_⟩:=h
  rfl
 ·obtain⟨d,ld,m,ts,S,es,L,laid,rfl,hL,hld,hdl,h9000,q1,q2⟩:=h
  have hu:=aZ hr
  have hu8:=aJ hr
  refine⟨_,(ab (ai (i:=3) dw.nd rfl (Or.inl rfl) (er hu (pv 0) (pv 1) (aC ae) ⟨rfl,rfl,rfl,rfl⟩))
   (ab (ee PassesOwn.never (aH nN (ap bR rfl T.len ba (aa (pv 3) ae)) ad (aN _))
   (ab (ai (i:=4) dw.nd rfl (Or.inl rfl) (j4 (pv 3)))
    (af (bf (dZ (f9 hu (aA aY (pv 4) ad (fun _ _=>rfl)) (pv 2))) (ab (bK hu (pv 2) (aA aY (pv 4) ad (fun _ _=>rfl)) ck rfl)
     (af (ar (pv 4)))) aM))))
   (af (ar f7)))),?_⟩
  refine⟨_,rfl,d,rfl,.inl ⟨_,.inl hL.at_⟩,_,rfl,(by show 0≤sizeLine;decide),fun p0 H1 n1=>?_⟩
  have hL1:=hL.same n1.same
  have hld1:=n1.same _ _ hld
  refine⟨_,cD.k (k:=Sum.inl m) hL1.at_,?_⟩
  cases ev:bo (kvB es) (Sum.inl m) with
  | none =>
    have hm:=nj ev
    refine⟨fun _ σ H'=>σ=[some (.ref d),some (.int m),some (.ref ld),some (.ref p0),none]∧H'=H1,⟨0,rfl,rfl⟩,?_⟩
    rintro k σ H' ⟨rfl,rfl⟩
    refine⟨_,rfl,p0,_,rfl,Sq.lst n1.is,_,_,rfl,rfl,_,rfl,?_⟩
    refine cc (fun c=>absurd c (by simp)) (fun _=>?_)
    refine q1 L H' (fun b u _ _ e=>n1.same _ _ e) hL1 hld1 fun st hst e=>?_
    rcases hL1.out st hst with k | ⟨p,e1,_⟩
    ·exact k
    ·rw[e,hL1.non m hm] at e1
     cases e1
  | some v =>
    obtain⟨q,hq,rfl⟩:=nk ev
    refine⟨fun k σ H'=>∃ (L':Int→List V) (sv:Option V),σ=[some (.ref d),some (.int m),some (.ref ld),some (.ref q),sv]∧(∀ b u,b≠ld→b∉es.map (·.2)→H b=some u→H' b=some u)∧Lv ts S H' d es L' laid∧H' ld=some (.dK (kvT laid))∧k=(L' m).length,
     ⟨_,L,none,rfl,fun b u _ _ e=>n1.same _ _ e,hL1,hld1,rfl⟩,?_⟩
    rintro k σ H' ⟨L',sv,rfl,fr,hL',hld',rfl⟩
    have hqa:=hL'.lsts _ hq
    refine⟨_,rfl,q,_,rfl,Sq.lst hqa,_,_,rfl,rfl,_,rfl,?_⟩
    refine cc (fun c=>?_) (fun c=>?_)
    ·have c':(((L' m).length:Nat):Int)>0:=of_decide_eq_true c
     obtain⟨xs,v,e⟩:∃ xs v,L' m=xs++[v]:=by
      rcases eq_nil_or_concat (L' m) with e | ⟨u,v,e⟩
      ·rw[e] at c';simp at c'
      ·exact⟨u,v,by simpa using e⟩
     obtain⟨p,st,rfl,hp,hS,hf⟩:=hL'.into m v (by rw[e];simp)
     refine⟨fun σ' H'=>∃ (L':Int→List V) (sv:Option V),σ'=[some (.ref d),some (.int m),some (.ref ld),some (.ref q),sv]∧(∀ b u,b≠ld→b∉es.map (·.2)→H b=some u→H' b=some u)∧Lv ts S H' d es L' laid∧H' ld=some (.dK (kvT laid))∧(L' m).length=xs.length,
      fun σ' H' ⟨L2,sv,h1,h2,h3,h4,h5⟩=>⟨(L2 m).length,by rw[e,length_append,length_singleton];lia,L2,sv,h1,h2,h3,h4,rfl⟩,?_⟩
     refine⟨_,rfl,q,_,.ref p,rfl,hqa,(by show (L' m)[(L' m).length-1]? = _;rw[e];simp),fun H2 c2=>?_⟩
     have c2':Chg H' q (.lst xs) H2:=by
      have:(L' m).dropLast=xs:=by rw[e,List.dropLast_concat]
      rw[←this]
      exact c2
     have qin:q∈es.map (·.2):=mem_map.mpr ⟨_,hq,rfl⟩
     have fr2:∀ b u,b≠ld→b∉es.map (·.2)→H b=some u→H2 b=some u:=fun b u h1 h2 e=>by
      rw[c2.oth b (fun z=>h2 (z▸qin))]
      exact fr b u h1 h2 e
     have hld2:H2 ld=some (.dK (kvT laid)):=by
      rw[c2.oth ld (bz hld' hqa (by intro z;cases z))]
      exact hld'
     have hp2:H2 p=some (.tup (scS st)):=by
      rw[c2.oth p (bz hp hqa (by intro z;cases z))]
      exact hp
     refine⟨_,rfl,p,_,_,_,rfl,rfl,Sq.tup hp2,rfl,_,rfl,ld,_,rfl,cD.k (k:=Sum.inl st.1) hld2,_,rfl,?_⟩
     rw[fO]
     by_cases hin:st.1∈laid
     ·rw[decide_eq_true hin]
      refine⟨_,_,rfl,fr2,hL'.pop hq e hp c2' (fun _ h=>h) hin,hld2,?_⟩
      rw[gL]
     ·rw[decide_eq_false hin]
      refine⟨_,rfl,_,rfl,p,_,_,_,rfl,rfl,Sq.tup hp2,rfl,ld,_,Sum.inl st.1,rfl,hld2,rfl,aw (by rw[dF];lia),fun H3 c3=>?_⟩
      rw[fP,kl hin] at c3
      have hL2:=hL'.pop (laid':=laid++[st.1]) hq e hp c2' (fun x h=>mem_append_left _ h) (by simp)
      have nin:ld∉es.map (·.2):=fun z=>by
       obtain⟨g,hg,eg⟩:=mem_map.mp z
       have h1:=hL2.lsts g hg
       rw[show g.2=ld from eg,hld2] at h1
       cases h1
      refine⟨_,rfl,q2 p st _ H3 (fun b u h1 h2 e=>?_) (hL2.keep (fun b u h1 e=>?_) hdl.symm nin ?_) c3.is ?_ hS hf hin⟩
      ·rw[c3.oth b h1]
       exact fr2 b u h1 h2 e
      ·rw[c3.oth b h1]
       exact e
      ·intro ys z
       rw[hld2] at z
       cases z
      ·rw[c3.oth p (bz hp2 hld2 (by intro z;cases z))]
       exact hp2
    ·have c':¬ (((L' m).length:Nat):Int)>0:=fun z=>c (decide_eq_true z)
     have e:L' m=[]:=eq_nil_of_length_eq_zero (by lia)
     refine q1 L' H' fr hL' hld' fun st hst e1=>?_
     rcases hL'.out st hst with k | ⟨p,e2,_⟩
     ·exact k
     ·rw[e1,e] at e2
      cases e2
theorem aU:au ["tiles","steps","start","leaving","laid","path","row","step","mark"] ["tiles","steps","start"] (defScope cT):=⟨rfl,rfl,rfl,by decide +kernel,rfl,by decide +kernel,by decide +kernel⟩
theorem ka {f:Addr}{fd:FuncData}(F:Fun K "walk_from" "walk_from" cT f fd)(T:Blt mg)(c_by_left_mark:aF P w K mg base 3 "by_left_mark" ["tiles","steps"] k7)(c_take_step:aF P w K mg base 1 "take_step" ["leaving","mark","laid"] pU)(c_faces:aF P w K mg base 2 "faces" ["tiles","step"] jT):bh P w K mg base CX0 4 f fd ["tiles","steps","start"] nz:=by
 refine F.ok (k:=3) aU (fun vs H Q E h=>?_) (fun cdv A outer s H vs Q E hr h=>?_)
 ·obtain⟨t,r,ts,S,s,e,B,rfl,_⟩:=h
  rfl
 ·obtain⟨t,r,ts,S,s,e,B,rfl,hT,hR,h3000,h9000,hB,hB0,hc,q⟩:=h
  have hu:=aZ hr
  have hu8:=aJ hr
  refine⟨_,(ab (ai (i:=3) aU.nd rfl (Or.inl rfl) (aj c_by_left_mark (hr.mono (by decide)) rfl (aa (pv 0) (aa (pv 1) ae))))
   (ab (ai (i:=4) aU.nd rfl (Or.inl rfl) dm)
   (ab (ai (i:=5) aU.nd rfl (Or.inl rfl) (aC ae))
   (ab (ai (i:=6) aU.nd rfl (Or.inl rfl) (aC ae))
   (dC (ai (i:=7) aU.nd rfl (Or.inl rfl) (aj c_take_step (hr.mono (by decide)) rfl (aa (pv 3) (aa (pv 2) (aa (pv 4) ae)))))
   (ab (ee PassesOwn.never (PW.pt (lj (dZ (nM (pv 7))) (g8 (aH nN (ap bR rfl T.len ba (aa (pv 5) ae)) ad (aN _)))))
   (dC (bf (dZ (nM (pv 7))) (ab (a7 (pv 5) (pv 7))
    (af (ai (i:=8) aU.nd rfl (Or.inl rfl) (aA aY (aj c_faces (hr.mono (by decide)) rfl (aa (pv 0) (aa (pv 7) ae))) ad (fun _ _=>rfl))))) (ab (a7 (pv 6) (j4 (pv 5)))
    (af (ai (i:=8) aU.nd rfl (Or.inl rfl) (aA aY (aj c_faces (hr.mono (by decide)) rfl (aa (pv 0) (aa (aA aY (pv 6) (nL jP ad) (fun _ _=>rfl)) ae))) ad (fun _ _=>rfl))))))
    (af (ai (i:=7) aU.nd rfl (Or.inl rfl) (aj c_take_step (hr.mono (by decide)) rfl (aa (pv 3) (aa (pv 8) (aa (pv 4) ae))))))))
   (ab (jY (rC (pv 6)))
   (af (ar (pv 6)))))))))),?_⟩
  refine⟨_,rfl,_,rfl,t,r,ts,S,rfl,hT,hR,h9000,hB.ins,fun d es L H1 hd0 hes0 s1 hL1=>?_⟩
  refine fun ld H2 n2=>?_
  refine⟨(by show 0≤sizeLine;decide),fun pa H3 n3=>?_⟩
  refine⟨(by show 0≤sizeLine;decide),fun ro H4 n4=>?_⟩
  have fx:WkF H d ld pa ro es:=by
   have h1:=n2.same
   have h2:=n3.same
   have h3:=n4.same
   have nin:∀ {Hx Hy:Hp} {a:Addr} {o:HO},ak H1 Hx→New Hx a o Hy→a∉es.map (·.2):=fun sx n z=>by
    obtain⟨g,hg,eg⟩:=mem_map.mp z
    have:=sx _ _ (hL1.lsts g hg)
    rw[show g.2=_ from eg,n.was] at this
    cases this
   refine⟨hd0,hes0,n2.free s1,n3.free (s1.trans h1),n4.free (s1.trans (h1.trans h2)),nin (ak.refl _) n2,nin h1 n3,nin (h1.trans h2) n4,?_,?_,?_,?_⟩
   ·exact n2.ne hL1.at_
   ·exact n3.ne n2.is
   ·exact n4.ne (h2 _ _ n2.is)
   ·exact n4.ne n3.is
  have s4:ak H H4:=s1.trans (n2.same.trans (n3.same.trans n4.same))
  have st4:WkH ts S H H4 d ld pa ro es [] [] []:=⟨L,s4,hL1.same (n2.same.trans (n3.same.trans n4.same)),n4.same _ _ (n3.same _ _ n2.is),Tl.nil (n4.same _ _ n3.is),Tl.nil n4.is⟩
  refine⟨fun σ H'=>∃ (sv:V) (mv:Option V) (μ:Nat),σ=[some (.ref t),some (.ref r),some (.int s),some (.ref d),some (.ref ld),some (.ref pa),some (.ref ro),some sv,mv]∧WkI ts S B s e H H' d ld pa ro es sv μ,?_,?_⟩
  ·obtain⟨L4,_,hL4,hld4,_,_⟩:=id st4
   refine⟨_,rfl,_,rfl,_,rfl,d,ld,s,ts,S,es,L4,[],rfl,hL4,hld4,fx.dl,by simp,fun L' H5 k5 hL5 hld5 hst=>?_,fun p st L' H5 k5 hL5 hld5 hp hS hf hn=>?_⟩
   ·exact⟨.non,none,_,rfl,none,[],[],[],s,e,st4.took fx k5 hL5 hld5,.inl ⟨rfl,rfl⟩,WI.init hB0,fun _=>hst,rfl⟩
   ·exact⟨.ref p,none,_,rfl,some st,[],[],[st.1],(ah ts st).2,e,st4.took fx k5 hL5 hld5,.inr ⟨p,st,rfl,rfl,hp⟩,(WI.init hB0).go hB hS hn hf,fun z=>(by cases z),rfl⟩
  rintro σ H5 ⟨sv0,mv0,μ0,rfl,w0⟩
  refine⟨fun m σ H'=>∃ (sv:V) (mv:Option V),σ=[some (.ref t),some (.ref r),some (.int s),some (.ref d),some (.ref ld),some (.ref pa),some (.ref ro),some sv,mv]∧WkI ts S B s e H H' d ld pa ro es sv m,⟨μ0,sv0,mv0,rfl,w0⟩,?_⟩
  rintro m σ H6 ⟨sv,mv,rfl,so,path,row,laid,cur,b,w1,w2,w3,w4,w5⟩
  obtain⟨L6,s6,hL6,hld6,hpa6,hro6⟩:=id w1
  obtain⟨pv,pv1,pv2⟩:=hpa6.len
  have hT6:=hT.same s6
  have hlen:=w3.len hB
  refine pP (decide (so≠none)) (decide (0<path.length)) (fun Q' q'=>?_) (fun Q' q'=>?_) ?_
  ·rcases w2 with⟨rfl,rfl⟩ | ⟨p,st,rfl,rfl,hp⟩
   ·exact⟨_,rfl,_,rfl,q'⟩
   ·exact⟨_,rfl,_,rfl,q'⟩
  ·refine⟨_,rfl,pa,_,rfl,Sq.lst pv1,_,_,rfl,rfl,_,rfl,?_⟩
   rw[gT (show (((pv.length:Nat):Int)>0)↔0<path.length by rw[pv2];lia)]
   exact q'
  refine cc (fun c=>?_) (fun c=>?_)
  ·refine⟨fun σ' H'=>∃ (sv:V) (mv:Option V) (μ:Nat),σ'=[some (.ref t),some (.ref r),some (.int s),some (.ref d),some (.ref ld),some (.ref pa),some (.ref ro),some sv,mv]∧WkI ts S B s e H H' d ld pa ro es sv μ∧μ < m,
    fun σ' H' ⟨sv,mv,μ,h1,h2,h3⟩=>⟨μ,h3,sv,mv,h1,h2⟩,?_⟩
   refine⟨fun σ' H'=>∃ (cur b:Int) (path row:List (Int×Bool)),σ'=[some (.ref t),some (.ref r),some (.int s),some (.ref d),some (.ref ld),some (.ref pa),some (.ref ro),some sv,some (.int cur)]∧WkH ts S H H' d ld pa ro es path row laid∧WI ts S B s e laid path row cur b∧2*(ts.length-laid.length)+path.length<m,?_,?_⟩
   ·rcases w2 with⟨rfl,rfl⟩ | ⟨p,st,rfl,rfl,hp⟩
    ·refine⟨_,rfl,_,rfl,?_⟩
     refine cc (fun z=>absurd z (by simp)) (fun _=>?_)
     have hp0:0<path.length:=by simpa using c
     obtain⟨p0,x,rfl⟩:∃ p0 x,path=p0++[x]:=by
      rcases eq_nil_or_concat path with z | ⟨u,v,z⟩
      ·rw[z] at hp0;simp at hp0
      ·exact⟨u,v,by simpa using z⟩
     have w3':WI ts S B s e laid (p0++[x]) row cur b:=by simpa using w3
     have wp:=w3'.pop hB (w4 rfl)
     obtain⟨rv,rv1,rv2⟩:=hro6.len
     obtain⟨xp,us,u1,u2,u3⟩:=hpa6.popL pv1
     refine⟨_,rfl,ro,_,rfl,rv1,_,rfl,pa,_,.ref xp,rfl,pv1,(by rw[u1];simp),fun H7 c7=>?_⟩
     have c7':Chg H6 pa (.lst us) H7:=by
      have:pv.dropLast=us:=by rw[u1,List.dropLast_concat]
      rw[←this];exact c7
     have hro7:=hro6.oth c7' fx.pr.symm (by intro ys z;rw[pv1] at z;cases z)
     have hxp7:H7 xp=some (.tup (scS x)):=by rw[c7'.oth xp (bz u2 pv1 (by intro z;cases z))];exact u2
     obtain⟨ws,a1,a2,a3⟩:=hro7.snoc hxp7
     have hrl:row.length≤ts.length:=by
      have h1:=aD (b:=laid) (List.Nodup.sublist ((List.sublist_append_right _ _).map _) w3'.once) fun y hy=>(w3'.laid y).mpr (by rw[map_append];exact mem_append_right _ hy)
      rw[length_map] at h1
      lia
     refine⟨_,a1,aw (by lia),fun H8 c8=>?_⟩
     have hro8:=a3 H8 c8
     have hpa8:=(u3 H7 c7').oth c8 fx.pr (by intro ys z;rw[a1] at z;cases z)
     have st8:WkH ts S H H8 d ld pa ro es p0 (row++[x]) laid:=by
      refine⟨L6,c8.same (c7'.same s6 fx.p0) fx.r0,?_,?_,hpa8,hro8⟩
      ·have hL7:=hL6.keep (H':=H7) (x:=pa) (fun b u h1 e=>by rw[c7'.oth b h1];exact e) (bz pv1 hL6.at_ (by intro z;cases z)) fx.pe (by intro ys z;rw[pv1] at z;cases z)
       exact hL7.keep (H':=H8) (x:=ro) (fun b u h1 e=>by rw[c8.oth b h1];exact e) (bz rv1 hL6.at_ (by intro z;cases z)) fx.re (by intro ys z;rw[a1] at z;cases z)
      ·rw[c8.oth ld fx.lr,c7'.oth ld fx.lp];exact hld6
     have hin:=hB.ins x (w3'.insS x (by simp))
     have hT8:=hT.same (c8.same (c7'.same s6 fx.p0) fx.r0)
     obtain⟨zs,lp,z1,z2,z3⟩:=hro8.last (x:=x) (by simp)
     refine⟨_,rfl,_,rfl,_,rfl,ro,_,_,_,rfl,rfl,Sq.lst z1,z2,t,lp,ts,x,rfl,hT8,z3,hin,fun f H9 n9=>?_⟩
     refine⟨f,_,_,_,rfl,rfl,Sq.tup n9.is,rfl,?_⟩
     refine⟨_,_,p0,row++[x],rfl,st8.same n9.same,wp,?_⟩
     rw[w5]
     simp
    ·refine⟨_,rfl,_,rfl,?_⟩
     refine cc (fun _=>?_) (fun z=>absurd (by simp) z)
     have w3':WI ts S B s e laid (path++[st]) row cur b:=by simpa using w3
     have hpl:(path++[st]).length≤ts.length:=by
      have h1:=aD (b:=laid) (List.Nodup.sublist ((List.sublist_append_left _ _).map _) w3'.once) fun y hy=>(w3'.laid y).mpr (by rw[map_append];exact mem_append_left _ hy)
      rw[length_map] at h1
      lia
     rw[length_append,length_singleton] at hpl
     obtain⟨ws,a1,a2,a3⟩:=hpa6.snoc hp
     refine⟨_,rfl,pa,_,rfl,a1,_,rfl,_,a1,aw (by lia),fun H7 c7=>?_⟩
     have hpa7:=a3 H7 c7
     have npt:∀ ys,H6 pa≠some (.tup ys):=by intro ys z;rw[a1] at z;cases z
     have st7:WkH ts S H H7 d ld pa ro es (path++[st]) row laid:=by
      refine⟨L6,c7.same s6 fx.p0,hL6.keep (x:=pa) (fun b u h1 e=>by rw[c7.oth b h1];exact e) (bz a1 hL6.at_ (by intro z;cases z)) fx.pe npt,?_,hpa7,hro6.oth c7 fx.pr.symm npt⟩
      rw[c7.oth ld fx.lp];exact hld6
     have hin:=hB.ins st (w3'.insS st (by simp))
     have hp7:H7 p=some (.tup (scS st)):=by rw[c7.oth p (fun z=>npt _ (z▸hp))];exact hp
     refine⟨_,rfl,_,rfl,t,p,ts,st,rfl,hT.same (c7.same s6 fx.p0),hp7,hin,fun f H9 n9=>?_⟩
     refine⟨f,_,_,_,rfl,rfl,Sq.tup n9.is,rfl,?_⟩
     have ecur:(ah ts st).2=cur:=by
      obtain⟨_,_,h2⟩:=w3'.pth.cut
      exact h2.2
     refine⟨cur,b,path++[st],row,by rw[ecur];rfl,st7.same n9.same,w3',?_⟩
     rw[w5]
     simp
     lia
   ·rintro σ' H7 ⟨cur',b',path',row',rfl,st7,wi,hμ⟩
    obtain⟨L7,s7,hL7,hld7,_,_⟩:=id st7
    have hlen7:=wi.len hB
    refine⟨_,rfl,_,rfl,_,rfl,d,ld,cur',ts,S,es,L7,laid,rfl,hL7,hld7,fx.dl,by lia,fun L' H8 k8 hL8 hld8 hst=>?_,fun p st L' H8 k8 hL8 hld8 hp hS hf hn=>?_⟩
    ·exact⟨.non,_,_,rfl,⟨none,path',row',laid,cur',b',st7.took fx k8 hL8 hld8,.inl ⟨rfl,rfl⟩,by simpa using wi,fun _=>hst,rfl⟩,by simpa using hμ⟩
    ·have wg:=wi.go hB hS hn hf
     have hlg:=wg.len hB
     rw[length_append,length_singleton] at hlg
     refine⟨.ref p,_,_,rfl,⟨some st,path',row',laid++[st.1],(ah ts st).2,b',st7.took fx k8 hL8 hld8,.inr ⟨p,st,rfl,rfl,hp⟩,by simpa using wg,fun z=>(by cases z),rfl⟩,?_⟩
     simp
     lia
  ·have c':so=none∧path=[]:=by
    simp at c
    exact c
   obtain⟨rfl,rfl⟩:=c'
   obtain⟨rv,rv1,rv2⟩:=hro6.len
   refine⟨_,rfl,ro,_,rfl,rv1,fun H7 c7=>?_⟩
   obtain⟨a1,a2,a3,a4⟩:=WI.all (by simpa using w3) hB (w4 rfl) hc
   exact⟨_,rfl,q ro row.reverse H7 fx.r0 (c7.same s6 fx.r0) (hro6.revC rv1 c7) a1 a2 a3 a4⟩
theorem b8:au ["tiles","often","ends","part","odd"] ["tiles"] (defScope cM):=⟨rfl,rfl,rfl,by decide +kernel,rfl,by decide +kernel,by decide +kernel⟩
theorem gj:(["mark","often"]:List Str).Nodup:=by decide +kernel
theorem lB {f:Addr}{fd:FuncData}(F:Fun K "row_ends" "row_ends" cM f fd)(T:Blt mg)(c_counts:aF P w K mg base 1 "counts" ["tiles"] kZ)(c_parts_of:aF P w K mg base 2 "parts_of" ["tiles"] nD):bh P w K mg base CX0 3 f fd ["tiles"] pX:=by
 refine F.ok (k:=2) b8 (fun vs H Q E h=>?_) (fun cdv A outer s H vs Q E hr h=>?_)
 ·obtain⟨l,ts,rfl,_⟩:=h
  rfl
 ·obtain⟨l,ts,rfl,hT,h1000,q⟩:=h
  have hu:=aZ hr
  have hu8:=aJ hr
  refine⟨_,(ab (ai (i:=1) b8.nd rfl (Or.inr rfl) (eU (tQ rfl) rfl T.dict sf (aa (aj c_counts (hr.mono (by decide)) rfl (aa (pv 0) ae)) ae)))
   (ab (ai (i:=2) b8.nd rfl (Or.inl rfl) (aC ae))
   (ab (bq PassesOwn.never rfl (aE (aj c_parts_of (hr.mono (by decide)) rfl (aa (pv 0) ae))) (ao (i:=3) b8.nd rfl (Or.inl rfl))
   (ab (sD (i:=4) rfl (cj (osc:=defScope cM) (N:=["tiles","often","ends","part","odd"]) (N':=["mark","often"]) (ix:=[none,some 1]) (by decide +kernel)) b8.nd rfl rfl (aE (pv 3)) (fun _ _ _ _=>(ao (i:=0) gj rfl (Or.inl rfl))) (fun _ _ _ _=>(gO (aH dM (al a9 (j7 hu (pv 1) (pv 0) (fun _ _=>rfl)) ad) ad (aN _)))) (fun _ _ _ _=>(pv 0)))
    (af (jY (rD (pv 2) (qi (aH nN (ap bR rfl T.len ba (aa (pv 4) ae)) ad (aN _)) (pv 4) (aC (aa (aA aY (pv 3) ad (fun _ _=>rfl)) (aa (aA aY (pv 3) ad (fun _ _=>rfl)) ae)))))))))
   (af (ar (pv 2)))))),?_⟩
  refine⟨_,rfl,l,ts,rfl,hT,h1000,fun lc ms H1 im hc s1 hcs=>?_⟩
  have hmn:ms.Nodup:=im.1.imp fun z=>Int.ne_of_lt z
  have hkk:(ms.map fun m=>(m,aI ts m)).map (·.1)=ms:=by rw[map_map];exact List.map_id' ms
  refine⟨lc,_,rfl,hcs,by rw[hkk];exact hmn,fun d H2 n2=>?_⟩
  have look:∀ m∈ms,bo (kvE (ms.map fun m=>(m,aI ts m))) (Sum.inl m)=some (V.int (aI ts m)):=fun m hm=>by
   rw[cK]
   cases e:(ms.map fun m=>(m,aI ts m)).find? fun e=>decide (e.1=m) with
   | none=>exact absurd (decide_eq_true rfl) (find?_eq_none.mp e (m,aI ts m) (mem_map.mpr ⟨m,hm,rfl⟩))
   | some x =>
     have h0:=find?_some e
     obtain⟨y,_,rfl⟩:=mem_map.mp (mem_of_find?_eq_some e)
     have:y=m:=of_decide_eq_true h0
     subst this
     rfl
  generalize kvE (ms.map fun m=>(m,aI ts m))=kvs at n2 look
  refine⟨(by show 0≤sizeLine;decide),fun en H3 n3=>?_⟩
  have s3:ak H H3:=s1.trans (n2.same.trans n3.same)
  refine⟨_,rfl,l,ts,rfl,hT.same s3,h1000,fun lp ps Ps H4 hPs hlp0 s4 hlol=>?_⟩
  have hen0:H en=none:=n3.free (s1.trans n2.same)
  have hen4:=s4 _ _ n3.is
  have hd4:=s4 _ _ (n3.same _ _ n2.is)
  have hde:d≠en:=n3.ne n2.is
  have hlpe:lp≠en:=fun z=>by have h:=n3.is;rw[←z,hlp0] at h;cases h
  have hPl:∀ {i:Nat} {pa:Addr} {P:List Int},ps[i]? = some pa→Ps[i]? = some P→pa≠en∨P=[]:=fun {i pa P} e1 e2=>by
   by_cases z:pa=en
   ·right
    have h:=hlol.2.2 i pa P e1 e2
    rw[z,hen4] at h
    injection h with h
    injection h with h
    cases P with
    | nil=>rfl
    | cons a b=>cases h
   ·exact .inl z
  refine⟨lp,_,rfl,.inl hlol.1,aX (xs:=ps.map V.ref) (fun i σ H5=>∃ pv ov,σ=[some (.ref l),some (.ref d),some (.ref en),pv,ov]∧(∀ b u,b≠en→H4 b=some u→H5 b=some u)∧H5 en=some (.lst ((ay ts (Ps.take i)).map V.int)))
   ⟨none,none,rfl,fun b u _ e=>e,hen4⟩ (fun i σ H5 _ ⟨_,_,_,k,_⟩=>.inl (k _ _ hlpe hlol.1)) ?_ ?_⟩
  ·rintro i x σ H5 hx ⟨pv,ov,rfl,k5,hen5⟩
   obtain⟨pa,ea,rfl⟩:=ir hx
   have hi:i<Ps.length:=by have:=am ea;rw[←hlol.2.1];exact this
   have eP:Ps[i]? = some Ps[i]:=getElem?_eq_getElem hi
   have hmem:=getElem_mem hi
   have hPlen:=hPs.lenP hmem
   obtain⟨m0,hm0,_,hm1⟩:=hPs.ne hmem
   have hsub:∀ x∈Ps[i],x∈ms:=fun x hx=>(im.2 x).mpr ((hPs.all x).mp (mem_flatten.mpr ⟨_,hmem,hx⟩))
   generalize Ps[i]=P at eP hPlen hm0 hm1 hsub
   have hpe:pa≠en:=(hPl ea eP).resolve_right (fun z=>by rw[z] at hm1;cases hm1)
   have hP5:=k5 _ _ hpe (hlol.2.2 i pa P ea eP)
   have hd5:=k5 _ _ hde hd4
   refine⟨_,rfl,pa,_,rfl,.inl hP5,dq (xs:=P.map V.int) (fun j σ H6 ys=>∃ v,σ=[v,some (.ref d)]∧ak H5 H6∧ys=(bO ts (P.take j)).map V.int) ⟨none,rfl,ak.refl _,rfl⟩
    (fun j σ H6 ys hj ⟨_,_,s,e⟩=>⟨.inl (s _ _ hP5),?_⟩) (bx (by rw[length_map];lia)) ?_ ?_⟩
   ·rw[e,length_map]
    exact Nat.le_trans (length_filter_le _ _) (by rw[length_take];lia)
   ·rintro j y σ H6 ys N hN hy ⟨v,rfl,s6,rfl⟩
    obtain⟨m,em,rfl⟩:=cA hy
    have hval:=look m (hsub m (mem_of_getElem? em))
    refine⟨_,rfl,_,rfl,d,_,rfl,(by rw[←hval];exact cD.k (k:=Sum.inl m) (s6 _ _ hd5)),_,_,rfl,rfl,(by show (0:Int)<2;decide),rfl,_,rfl,?_⟩
    have ed:decide (V.int (aI ts m % 2)=V.int 1)=decide (aI ts m % 2=1):=gT ⟨fun z=>by injection z,fun z=>by rw[z]⟩
    have key:bO ts (P.take (j+1))=bO ts (P.take j)++if decide (aI ts m % 2=1)=true then [m] else []:=de em
    refine cc (fun c=>?_) (fun c=>?_)
    ·rw[ed] at c
     refine⟨_,rfl,hN _ _ _ ⟨_,rfl,s6,?_⟩⟩
     rw[key,if_pos c,map_append]
     rfl
    ·rw[ed] at c
     refine hN _ _ _ ⟨_,rfl,s6,?_⟩
     rw[key,if_neg c,append_nil]
   ·rintro σ H6 ys ⟨v,rfl,s6,rfl⟩ D H7 n7
    rw[length_map,take_of_length_le (Nat.le_refl _)] at n7
    have hen7:=n7.same _ _ (s6 _ _ hen5)
    have hP7:=n7.same _ _ (s6 _ _ hP5)
    have hlenE:(ay ts (Ps.take i)).length≤4000:=by
     have h1:=l6 hPs
     have h2:(ay ts (Ps.take i)).length≤(ay ts Ps).length:=by
      unfold ay
      conv=>rhs;rw[←take_append_drop i Ps]
      rw[flatMap_append,length_append];lia
     lia
    have htake:ay ts (Ps.take (i+1))=ay ts (Ps.take i)++cn ts P:=by
     unfold ay
     rw[take_add_one,eP,flatMap_append]
     simp
    have h0:P.getD 0 0=m0:=by rw[getD_eq_getElem?_getD,←List.head?_eq_getElem?,hm0];rfl
    have hat:atI (P.map V.int) 0=some (.int m0):=by
     have:=b5 (zs:=P) (i:=0) (by lia) (by have:=length_pos_of_mem hm1;lia)
     rw[this]
     show some (V.int (P.getD 0 0))=_
     rw[h0]
    have hDe:en≠D:=n7.ne (s6 _ _ hen5)
    refine⟨_,rfl,en,_,rfl,hen7,_,rfl,D,_,rfl,Sq.lst n7.is,_,_,rfl,rfl,_,rfl,?_⟩
    rw[length_map]
    refine cc (fun c=>?_) (fun c=>?_)
    ·have c':0<(bO ts P).length:=by have:=of_decide_eq_true c;lia
     refine⟨_,rfl,D,_,_,rfl,hen7,n7.is,bx ?_,fun H8 c8=>?_⟩
     ·rw[length_map,length_map]
      have:=length_filter_le (fun m=>decide (aI ts m % 2=1)) P
      unfold bO
      lia
     ·refine⟨_,_,rfl,fun b u h1 e=>?_,?_⟩
      ·rw[c8.oth b h1];exact n7.same _ _ (s6 _ _ (k5 b u h1 e))
      ·rw[c8.is,htake,map_append]
       unfold cn
       rw[if_pos c']
    ·have c':¬ 0<(bO ts P).length:=fun z=>c (decide_eq_true (by lia))
     refine⟨_,rfl,pa,_,_,_,rfl,rfl,Sq.lst hP7,hat,_,rfl,pa,_,_,_,rfl,rfl,Sq.lst hP7,hat,(by show 2≤sizeLine;decide),fun D2 H8 n8=>?_⟩
     refine⟨D2,_,_,rfl,n8.same _ _ hen7,n8.is,bx ?_,fun H9 c9=>?_⟩
     ·rw[length_map]
      show _+2≤10000
      lia
     ·refine⟨_,_,rfl,fun b u h1 e=>?_,?_⟩
      ·rw[c9.oth b h1];exact n8.same _ _ (n7.same _ _ (s6 _ _ (k5 b u h1 e)))
      ·rw[c9.is,htake,map_append]
       unfold cn
       rw[if_neg c',h0]
       rfl
  ·rintro σ H5 ⟨pv,ov,rfl,k5,hen5⟩
   rw[length_map,hlol.2.1,take_length] at hen5
   refine⟨_,rfl,q en Ps ms H5 hPs im hen0 (fun b u e=>k5 b u (fun z=>by rw[z,hen0] at e;cases e) ((s3.trans s4) _ _ e)) hen5⟩
theorem fE:au ["ends"] ["ends"] (defScope bd):=⟨rfl,rfl,rfl,by decide +kernel,rfl,by decide +kernel,by decide +kernel⟩
theorem dG:(["place","ends"]:List Str).Nodup:=by decide +kernel
theorem fL {f:Addr}{fd:FuncData}(F:Fun K "joints_between" "joints_between" bd f fd)(T:Blt mg):bh P w K mg base CX0 1 f fd ["ends"] kW:=by
 refine F.ok (k:=0) fE (fun vs H Q E h=>?_) (fun cdv A outer s H vs Q E hr h=>?_)
 ·obtain⟨l,e,rfl,_⟩:=h
  rfl
 ·obtain⟨l,e,rfl,hl,h9000,hev,q⟩:=h
  have hu:=aZ hr
  have hu8:=aJ hr
  refine⟨_,(af (ar (fc rfl (cj (osc:=defScope bd) (N:=["ends"]) (N':=["place","ends"]) (ix:=[none,some 0]) (by decide +kernel)) (oH rfl T.range (aa ad (aa (al eA (ap bR rfl T.len ba (aa (pv 0) ae)) ad) (aa ad ae)))) (fun _ _ _ _=>(ao (i:=0) dG rfl (Or.inl rfl))) (fun _ _ _ _=>cZ) (fun _ _ _ _=>(bM (aa (aA aY (pv 1) (pv 0) (fun _ _=>rfl)) (aa (aA aY (pv 1) (al bW (pv 0) ad) (fun _ _=>rfl)) ae))))))),?_⟩
  have hL:(((e.map V.int).length:Nat):Int)=e.length:=by rw[length_map]
  refine⟨_,rfl,l,_,rfl,Sq.lst hl,_,_,rfl,rfl,_,_,rfl,⟨by decide,by decide,by rw[hL];lia,by rw[hL];lia⟩,?_⟩
  rw[hL,show (((e.length:Int)-1-1+1) / 2).toNat=e.length / 2-1 by lia]
  refine oW (fun i σ H2 ys=>∃ v,∃ js:List (Int×Int),σ=[v,some (.ref l)]∧ak H H2∧Tg scT H2 ys js∧js=(List.range i).map fun (k:Nat)=>(e.getD (2*k+1) 0,e.getD (2*k+2) 0)) ⟨none,[],rfl,ak.refl _,Tg.nil,rfl⟩
   (fun i σ H2 ys hi ⟨_,js,_,s,g,ej⟩=>by rw[g.len,ej];simp) (bx (by lia)) ?_ ?_
  ·rintro i σ H2 ys N hN hi ⟨v,js,rfl,s,g,ej⟩
   have hl2:=s _ _ hl
   have a1:atI (e.map V.int) (1+(i:Int)*2)=some (.int (e.getD (2*i+1) 0)):=by
    have:=b5 (zs:=e) (i:=1+(i:Int)*2) (by lia) (by lia)
    rwa [show (1+(i:Int)*2).toNat=2*i+1 by lia] at this
   have a2:atI (e.map V.int) (1+(i:Int)*2+1)=some (.int (e.getD (2*i+2) 0)):=by
    have:=b5 (zs:=e) (i:=1+(i:Int)*2+1) (by lia) (by lia)
    rwa [show (1+(i:Int)*2+1).toNat=2*i+2 by lia] at this
   refine⟨_,rfl,_,rfl,l,_,_,_,rfl,rfl,Sq.lst hl2,a1,?_⟩
   refine⟨_,rfl,_,rfl,_,_,rfl,rfl,l,_,_,_,rfl,rfl,Sq.lst hl2,a2,(by show 2≤sizeLine;decide),fun tp H3 n3=>?_⟩
   refine hN _ _ _ ⟨_,js++[(e.getD (2*i+1) 0,e.getD (2*i+2) 0)],rfl,s.trans n3.same,g.snoc n3.same n3.is,?_⟩
   rw[ej,range_succ,map_append]
   rfl
  ·rintro σ H2 ys ⟨v,js,rfl,s,g,ej⟩ D H3 n3
   refine q D H3 (n3.free s) (s.trans n3.same) ?_
   have:=g.tl n3
   rw[ej] at this
   exact this
theorem bC:au ["row","count","rows","step"] ["row","count"] (defScope bn):=⟨rfl,rfl,rfl,by decide +kernel,rfl,by decide +kernel,by decide +kernel⟩
theorem fq {f:Addr}{fd:FuncData}(F:Fun K "split_at_joints" "split_at_joints" bn f fd)(T:Blt mg):bh P w K mg base CX0 1 f fd ["row","count"] nC:=by
 refine F.ok (k:=0) bC (fun vs H Q E h=>?_) (fun cdv A outer s H vs Q E hr h=>?_)
 ·obtain⟨r,row,n,rfl,_⟩:=h
  rfl
 ·obtain⟨r,row,n,rfl,hR,h9000,q⟩:=h
  have hu:=aZ hr
  have hu8:=aJ hr
  refine⟨_,(ab (ai (i:=2) bC.nd rfl (Or.inl rfl) (aC (aa (aC ae) ae)))
   (ab (bq PassesOwn.never rfl (aE (pv 0)) (ao (i:=3) bC.nd rfl (Or.inl rfl))
   (af (bf (aH lw (aA aY (pv 3) ad (fun _ _=>rfl)) (pv 1) (aN _)) (af (a7 (aA aY (pv 2) (nL jP ad) (fun _ _=>rfl)) (pv 3))) (af (a7 (pv 2) (aC ae))))))
   (af (ar (pv 2))))),?_⟩
  refine⟨(by show 0≤sizeLine;decide),fun r0 H1 n1=>?_⟩
  refine⟨(by show 1≤sizeLine;decide),fun p H2 n2=>?_⟩
  obtain⟨vs,v0,g⟩:=hR.tg
  have v2:=g.len
  have s2:=n1.same.trans n2.same
  refine⟨_,rfl,r,_,rfl,.inl (s2 _ _ v0),aX (xs:=vs) (fun i σ H3=>∃ (sv:Option V) (rs:List Addr) (ra:Addr) (ds:List (List (Int×Bool))) (last:List (Int×Bool)),σ=[some (.ref r),some (.int n),some (.ref p),sv]∧ak H H3∧jM H3 p (rs++[ra]) (ds++[last])∧Spl n (row.take i) ds last∧(rs++[ra]).Nodup∧(∀ a∈rs++[ra],a≠p∧H a=none)∧last.length≤i∧ds.length≤i)
   ⟨none,[],r0,[],[],rfl,s2,⟨n2.is,rfl,fun i a x e1 e2=>?_⟩,Spl.nil n,by simp,fun a ha=>?_,Nat.le_refl _,Nat.le_refl _⟩ (fun i σ H3 _ ⟨_,_,_,_,_,_,s,_⟩=>.inl (s _ _ v0)) ?_ ?_⟩
  ·cases i with
   | zero =>
     have z1:r0=a:=by simpa using e1
     have z2:([]:List (Int×Bool))=x:=by simpa using e2
     subst z1 z2
     exact Tl.nil (n2.same _ _ n1.is)
   | succ i=>simp at e1
  ·have:a=r0:=by simpa using ha
   subst this
   exact⟨n2.ne n1.is,n1.was⟩
  ·rintro i x σ H3 hx ⟨sv,rs,ra,ds,last,rfl,s,hl,sp,hnd,hfr,hll,hdl⟩
   obtain⟨stp,st,rfl,est,hst0⟩:=g.get hx
   have hi:=am est
   have hst:=s _ _ hst0
   have et:row.take (i+1)=row.take i++[st]:=by rw[take_add_one,est];rfl
   have hrl:rs.length=ds.length:=by have:=hl.2.1;simpa using this
   have hra:Row H3 ra last:=hl.2.2 rs.length ra last (by simp) (by rw[hrl];simp)
   have hp3:=hl.1
   obtain⟨raP,raF⟩:=hfr ra (by simp)
   refine⟨_,rfl,stp,_,_,_,rfl,rfl,Sq.tup hst,rfl,_,rfl,_,_,rfl,rfl,_,rfl,?_⟩
   refine cc (fun c=>?_) (fun c=>?_)
   ·have c':st.1<n:=of_decide_eq_true c
    have hat:atI ((rs++[ra]).map V.ref) (-1)=some (.ref ra):=oh (by simp)
    obtain⟨ws,a1,a2,a3⟩:=hra.snoc hst
    refine⟨_,rfl,_,rfl,p,_,_,_,rfl,rfl,Sq.lst hp3,hat,ra,_,rfl,a1,_,rfl,_,a1,aw (by lia),fun H4 c4=>?_⟩
    have nt:∀ ys,H3 ra≠some (.tup ys):=by intro ys z;rw[a1] at z;cases z
    refine⟨_,rs,ra,ds,last++[st],rfl,c4.same s raF,⟨?_,by simp[hrl],fun j a y e1 e2=>?_⟩,by rw[et];exact sp.tile c',hnd,hfr,by rw[length_append,length_singleton];lia,by lia⟩
    ·rw[c4.oth p (Ne.symm raP)];exact hp3
    ·by_cases hj:j<rs.length
     ·have e1':=e1
      rw[getElem?_append_left hj] at e1'
      rw[getElem?_append_left (by lia)] at e2
      have hne:a≠ra:=fun z=>by
       rw[nodup_append] at hnd
       exact hnd.2.2 a (mem_of_getElem? e1') ra (by simp) z
      exact (hl.2.2 j a y e1 (by rw[getElem?_append_left (by lia)];exact e2)).oth c4 hne nt
     ·have ej:j=rs.length:=by
       have:=am e1
       simp at this
       lia
      subst ej
      have z1:ra=a:=by simpa using e1
      rw[hrl] at e2
      have z2:last++[st]=y:=by simpa using e2
      subst z1 z2
      exact a3 H4 c4
   ·have c':¬ st.1<n:=fun z=>c (decide_eq_true z)
    refine⟨_,rfl,p,_,rfl,hp3,(by show 0≤sizeLine;decide),fun nr H4 n4=>?_⟩
    have hp4:=n4.same _ _ hp3
    refine⟨_,hp4,aw (by rw[length_map,length_append,length_singleton];lia),fun H5 c5=>?_⟩
    have nt:∀ ys,H4 p≠some (.tup ys):=by intro ys z;rw[hp4] at z;cases z
    have hnp:nr≠p:=fun z=>by rw[←z,n4.was] at hp3;cases hp3
    have hp0:H p=none:=n2.free n1.same
    refine⟨_,rs++[ra],nr,ds++[last],[],rfl,c5.same (s.trans n4.same) hp0,⟨?_,by simp[hrl],fun j a y e1 e2=>?_⟩,by rw[et];exact sp.joint c',?_,fun a ha=>?_,Nat.zero_le _,by rw[length_append,length_singleton];lia⟩
    ·rw[c5.is,map_append (l₁:=rs++[ra])];rfl
    ·by_cases hj:j<(rs++[ra]).length
     ·rw[getElem?_append_left hj] at e1
      rw[getElem?_append_left (by simpa[hrl] using hj)] at e2
      exact ((hl.2.2 j a y e1 e2).same n4.same).oth c5 (hfr a (mem_of_getElem? e1)).1 nt
     ·have ej:j=(rs++[ra]).length:=by
       have:=am e1
       rw[length_append (as:=rs++[ra]),length_singleton] at this
       lia
      subst ej
      have z1:nr=a:=by rw[getElem?_append_right (Nat.le_refl _)] at e1;simpa using e1
      have hl2:(rs++[ra]).length=(ds++[last]).length:=by simp[hrl]
      rw[hl2,getElem?_append_right (Nat.le_refl _)] at e2
      have z2:([]:List (Int×Bool))=y:=by simpa using e2
      subst z1 z2
      exact Tl.nil (by rw[c5.oth nr hnp];exact n4.is)
    ·rw[nodup_append]
     refine⟨hnd,by simp,fun a ha b hb z=>?_⟩
     have:b=nr:=by simpa using hb
     obtain⟨j,hj⟩:=mem_iff_getElem?.mp ha
     have hjl:j<(ds++[last]).length:=by have:=am hj;simpa[hrl] using this
     obtain⟨_,k1,_⟩:=(hl.2.2 j a _ hj (getElem?_eq_getElem hjl)).len
     rw[z,this,n4.was] at k1
     cases k1
    ·rcases mem_append.mp ha with k | k
     ·exact hfr a k
     ·have:a=nr:=by simpa using k
      subst this
      exact⟨hnp,n4.free s⟩
  ·rintro σ H3 ⟨sv,rs,ra,ds,last,rfl,s,hl,sp,hnd,hfr,hll,hdl⟩
   rw[v2,take_of_length_le (Nat.le_refl _)] at sp
   exact⟨_,rfl,q p _ ds last H3 s hl sp⟩
theorem fZ:au ["tiles","ends","joined"] ["tiles"] (defScope fI):=⟨rfl,rfl,rfl,by decide +kernel,rfl,by decide +kernel,by decide +kernel⟩
theorem oQ {f:Addr}{fd:FuncData}(F:Fun K "fewest" "fewest" fI f fd)(T:Blt mg)(c_row_ends:aF P w K mg base 3 "row_ends" ["tiles"] pX)(c_joints_between:aF P w K mg base 1 "joints_between" ["ends"] kW)(c_split_at_joints:aF P w K mg base 1 "split_at_joints" ["row","count"] nC)(c_walk_from:aF P w K mg base 4 "walk_from" ["tiles","steps","start"] nz)(c_free_steps:aF P w K mg base 1 "free_steps" ["tiles"] nH):bh P w K mg base CX0 5 f fd ["tiles"] kY:=by
 refine F.ok (k:=4) fZ (fun vs H Q E h=>?_) (fun cdv A outer s H vs Q E hr h=>?_)
 ·obtain⟨l,ts,rfl,_⟩:=h
  rfl
 ·obtain⟨l,ts,rfl,hT,h1000,q⟩:=h
  have hu:=aZ hr
  have hu8:=aJ hr
  refine⟨_,(ab (bf (aH dM (ap bR rfl T.len ba (aa (pv 0) ae)) ad (aN _)) (af (ar (aC ae))) aM)
   (ab (ai (i:=1) fZ.nd rfl (Or.inl rfl) (aj c_row_ends (hr.mono (by decide)) rfl (aa (pv 0) ae)))
   (ab (ai (i:=2) fZ.nd rfl (Or.inl rfl) (al qQ (pv 0) (aj c_joints_between (hr.mono (by decide)) rfl (aa (pv 1) ae))))
   (af (ar (aj c_split_at_joints (hr.mono (by decide)) rfl (aa (aj c_walk_from (hr.mono (by decide)) rfl (aa (pv 2) (aa (aj c_free_steps (hr.mono (by decide)) rfl (aa (pv 2) ae)) (aa (aA aY (pv 1) ad (fun _ _=>rfl)) ae)))) (aa (ap bR rfl T.len ba (aa (pv 0) ae)) ae)))))))),?_⟩
  obtain⟨tv,tv1,tv2⟩:=hT.len
  refine⟨_,rfl,l,_,rfl,Sq.lst tv1,rfl,_,rfl,?_⟩
  by_cases ht:ts=[]
  ·refine tM (by rw[tv2,ht];rfl) ?_
   subst ht
   refine⟨(by show 0≤sizeLine;decide),fun p H1 n1=>q p [] [] H1 n1.same ⟨n1.is,rfl,fun i r row e=>by simp at e⟩ ⟨by simp,.refl _,fun Ps ms hP _=>?_⟩⟩
   rw[lU hP];rfl
  refine u6 (by rw[tv2];intro z;injection z with z;exact ht (eq_nil_of_length_eq_zero (by lia))) ?_
  refine⟨_,rfl,l,ts,rfl,hT,h1000,fun en Ps ms H1 hPs hM hen0 s1 hen=>?_⟩
  have hle:=l6 hPs
  have hlw:=gi hPs hM
  have hpos:0<(ay ts Ps).length:=by
   have:=jq hPs ht
   have:=kK (odds:=bE ts ms) (Ps:=Ps)
   lia
  have hT1:=hT.same s1
  refine⟨_,rfl,_,rfl,en,ay ts Ps,rfl,hen,by lia,m6 hPs hM,fun jp H2 hj0 s2 hj=>?_⟩
  have hT2:=hT1.same s2
  obtain⟨av,av1,av2⟩:=hT2.len
  obtain⟨bv,bv1,bv2⟩:=hj.len
  have hjl:=qA (ay ts Ps)
  refine⟨l,jp,_,_,rfl,rfl,av1,bv1,bx (by lia),fun jo H3 n3=>?_⟩
  have hJ:Til H3 jo (ts++jl (ay ts Ps)):=Tl.catN hT2 hj av1 bv1 n3
  have hJl:(ts++jl (ay ts Ps)).length≤3000:=by rw[length_append];lia
  have hen3:=n3.same _ _ (s2 _ _ hen)
  refine⟨_,rfl,_,rfl,jo,_,rfl,hJ,hJl,fun fr H4 hfr0 s4 hfr=>?_⟩
  have hJ4:=hJ.same s4
  have hen4:=s4 _ _ hen3
  obtain⟨a,ha⟩:∃ a,(ay ts Ps).head? = some a:=by
   cases hh:ay ts Ps with
   | nil=>rw[hh] at hpos;cases hpos
   | cons x r=>exact⟨x,rfl⟩
  obtain⟨b,hb⟩:∃ b,(ay ts Ps).getLast? = some b:=by
   rw[List.getLast?_eq_some_getLast (List.ne_nil_of_length_pos hpos)]
   exact⟨_,rfl⟩
  have hat:atI ((ay ts Ps).map V.int) 0=some (.int a):=by
   have:=b5 (zs:=ay ts Ps) (i:=0) (by lia) (by lia)
   rw[this]
   show some (V.int ((ay ts Ps).getD 0 0))=_
   rw[getD_eq_getElem?_getD,←List.head?_eq_getElem?,ha]
   rfl
  obtain⟨jb,jc⟩:=o6 hPs ha hb
  refine⟨_,rfl,en,_,_,_,rfl,rfl,Sq.lst hen4,hat,jo,fr,ts++jl (ay ts Ps),fe (ts++jl (ay ts Ps)).length,a,b,t0 (ts++jl (ay ts Ps)),rfl,hJ4,hfr,hJl,by rw[jx];lia,uD _,jb,jc,fun w row H5 hw0 s5 hw p1 p2 p3 p4=>?_⟩
  have s15:ak H H5:=s1.trans (s2.trans (n3.same.trans (s4.trans s5)))
  have hT5:=hT.same s15
  obtain⟨cv,cv1,cv2⟩:=hT5.len
  have hrow:row.length≤3000:=by
   have:=p3.length_eq
   unfold cg at this
   rw[length_map,length_map,length_range] at this
   lia
  refine⟨_,rfl,l,_,rfl,Sq.lst cv1,w,row,_,rfl,hw,by lia,fun p rs ds last H6 s6 hrs sp=>?_⟩
  rw[cv2] at sp
  exact q p rs _ H6 (s15.trans s6) hrs (pj hPs hM ht p1 p2 p3 sp)
theorem jX:au ["_law_script","_law_k"] ["_law_script","_law_k"] (defScope cY):=⟨rfl,rfl,rfl,by decide +kernel,rfl,by decide +kernel,by decide +kernel⟩
theorem kg {f:Addr}{fd:FuncData}(F:Fun K "_law_cell_at" "_law_cell_at" cY f fd)(T:Blt mg):bh P w K mg base CX0 1 f fd ["_law_script","_law_k"] (pY K):=by
 refine F.ok (k:=0) jX (fun vs H Q E h=>?_) (fun cdv A outer s H vs Q E hr h=>?_)
 ·obtain⟨a,ns,k,rfl,_⟩:=h
  rfl
 ·obtain⟨a,ns,k,rfl,hS,h0,q⟩:=h
  have hu:=aZ hr
  have hu8:=aJ hr
  refine⟨_,(ab (bf (aH lw (pv 1) (ap fU rfl T.len ba (aa (pv 0) ae)) (aN _)) (af (ar (aA nS (pv 0) (pv 1) (fun _ _=>rfl)))) aM)
   (af (ar ad))),?_⟩
  have hl:(ns.map V.int).length=ns.length:=length_map _
  refine⟨_,rfl,_,rfl,a,_,rfl,.inl hS,_,_,rfl,rfl,_,rfl,?_⟩
  refine cc (fun c=>?_) (fun c=>?_)
  ·have c':k<(((ns.map V.int).length:Nat):Int):=of_decide_eq_true c
   rw[hl] at c'
   exact⟨_,rfl,_,rfl,a,_,_,_,rfl,rfl,hS,b5 h0 c',q⟩
  ·have c':¬ k<(((ns.map V.int).length:Nat):Int):=fun z=>c (decide_eq_true z)
   rw[hl] at c'
   have e:ns.getD k.toNat 0=0:=by
    rw[getD_eq_getElem?_getD,getElem?_eq_none (by lia)]
    rfl
   rw[e] at q
   exact q
theorem mJ:au ["_law_found"] ["_law_found"] (defScope eQ):=⟨rfl,rfl,rfl,by decide +kernel,rfl,by decide +kernel,by decide +kernel⟩
theorem mP {f:Addr}{fd:FuncData}(F:Fun K "_law_whole" "_law_whole" eQ f fd)(T:Blt mg)(KT:Kit K):bh P w K mg base CX0 1 f fd ["_law_found"] ny:=by
 refine F.ok (k:=0) mJ (fun vs H Q E h=>?_) (fun cdv A outer s H vs Q E hr h=>?_)
 ·obtain⟨i,rfl,_⟩:=h
  rfl
 ·obtain⟨i,rfl,q⟩:=h
  have hu:=aZ hr
  have hu8:=aJ hr
  refine⟨_,(af (ar (ic (f8 T.isi T.int qS rfl rfl (pv 0)) (j5 (qg (f8 T.isi T.bool oe rfl rfl (pv 0))))))),?_⟩
  refine⟨_,rfl,_,_,.int i,KT.ii,_,rfl,u5 ?_⟩
  exact⟨_,rfl,_,_,.int i,KT.ib,_,rfl,q⟩
theorem fk:au ["_law_cell","_law_far","_law_many"] ["_law_cell","_law_far"] (defScope bV):=⟨rfl,rfl,rfl,by decide +kernel,rfl,by decide +kernel,by decide +kernel⟩
theorem gG:(["_law_k","_law_many"]:List Str).Nodup:=by decide +kernel
theorem gF:(["_law_k","_law_far"]:List Str).Nodup:=by decide +kernel
theorem gE:(["_law_k","_law_far"]:List Str).Nodup:=by decide +kernel
theorem mS {f:Addr}{fd:FuncData}(F:Fun K "_law_names" "_law_names" bV f fd)(T:Blt mg):bh P w K mg base CX0 1 f fd ["_law_cell","_law_far"] nF:=by
 refine F.ok (k:=0) fk (fun vs H Q E h=>?_) (fun cdv A outer s H vs Q E hr h=>?_)
 ·obtain⟨c,f,rfl,_⟩:=h
  rfl
 ·obtain⟨c,f,rfl,q⟩:=h
  have hu:=aZ hr
  have hu8:=aJ hr
  refine⟨_,(ab (ai (i:=2) fk.nd rfl (Or.inr rfl) (al bW ad (al a9 (pv 0) ad)))
   (dC (bf (aH dM (al a9 (al bN (pv 0) ad) ad) ad (aN _)) (af (ai (i:=2) fk.nd rfl (Or.inr rfl) (al bW ad (al a9 (al bN (pv 0) ad) ad)))) aM)
   (ab (bf (aH dM (al a9 (pv 1) ad) ad (aN _)) (af (ar (fc rfl (cj (osc:=defScope bV) (N:=["_law_cell","_law_far","_law_many"]) (N':=["_law_k","_law_many"]) (ix:=[none,some 2]) (by decide +kernel)) (cH rfl T.range (aa (pv 2) ae)) (fun _ _ _ _=>(ao (i:=0) gG rfl (Or.inl rfl))) (fun _ _ _ _=>cZ) (fun _ _ _ _=>(al eA (pv 0) (al bN (pv 1) ad)))))) aM)
   (ab (bf (aH dM (al a9 (pv 1) ad) ad (aN _)) (af (ar (fc rfl (cj (osc:=defScope bV) (N:=["_law_cell","_law_far","_law_many"]) (N':=["_law_k","_law_far"]) (ix:=[none,some 1]) (by decide +kernel)) (cH rfl T.range (aa (pv 2) ae)) (fun _ _ _ _=>(ao (i:=0) gF rfl (Or.inl rfl))) (fun _ _ _ _=>cZ) (fun _ _ _ _=>(al dg (aA aY (aC (aa ad (aa (nL jP ad) ae))) (al a9 (pv 0) ad) (fun _ _=>rfl)) (al a9 (al bW (al bN (pv 1) ad) (al dg (pv 0) (pv 0))) (al mO ad ad))))))) aM)
   (af (ar (fc rfl (cj (osc:=defScope bV) (N:=["_law_cell","_law_far","_law_many"]) (N':=["_law_k","_law_far"]) (ix:=[none,some 1]) (by decide +kernel)) (cH rfl T.range (aa (pv 2) ae)) (fun _ _ _ _=>(ao (i:=0) gE rfl (Or.inl rfl))) (fun _ _ _ _=>cZ) (fun _ _ _ _=>(al eA (al eA (al mO ad ad) ad) (al a9 (al bW (al bN (pv 1) ad) (al dg ad (pv 0))) (al eA (al dg ad (al mO ad ad)) ad))))))))))),?_⟩
  refine⟨_,rfl,_,_,rfl,rfl,(by show (0:Int)<12;decide),_,_,rfl,rfl,?_⟩
  have b12:=Int.emod_nonneg c (show (12:Int)≠0 by decide)
  have b12':=Int.emod_lt_of_pos c (show (0:Int)<12 by decide)
  have b40:=Int.emod_nonneg (c / 96) (show (40:Int)≠0 by decide)
  have b40':=Int.emod_lt_of_pos (c / 96) (show (0:Int)<40 by decide)
  refine⟨fun σ H'=>H'=H∧∃ m:Int,σ=[some (.int c),some (.int f),some (.int m)]∧1≤m∧m≤40,?_,?_⟩
  ·refine⟨_,rfl,_,_,rfl,rfl,⟨by decide,by decide⟩,_,_,rfl,rfl,(by show (0:Int)<8;decide),rfl,_,rfl,?_⟩
   refine cc (fun _=>?_) (fun _=>?_)
   ·refine⟨_,rfl,_,_,rfl,rfl,⟨by decide,by decide⟩,_,_,rfl,rfl,(by show (0:Int)<40;decide),_,_,rfl,rfl,?_⟩
    exact⟨rfl,1+c / 96 % 40,rfl,by lia,by lia⟩
   ·exact⟨rfl,1+c % 12,rfl,by lia,by lia⟩
  rintro σ H' ⟨rfl,m,rfl,m1,m2⟩
  have fin:∀ (H2 H3:Hp) (zs:List Int) (D:Addr),ak H' H2→zs.length=m.toNat→New H2 D (.lst (zs.map V.int)) H3→Q (.ref D) H3:=fun H2 H3 zs D s hz n =>
   q D zs H3 (by lia) (by lia) (n.free s) (s.trans n.same) n.is
  refine⟨_,rfl,_,_,rfl,rfl,(by show (0:Int)<3;decide),rfl,_,rfl,?_⟩
  refine cc (fun _=>?_) (fun _=>?_)
  ·refine⟨_,rfl,m,rfl,by lia,by lia,iw (fun i σ H2 ys=>∃ v,σ=[v,some (.int m)]∧ak H' H2∧∃ zs:List Int,ys=zs.map V.int∧zs.length=i) ⟨none,rfl,ak.refl _,[],rfl,rfl⟩
    (fun i σ H2 ys _ ⟨_,_,_,zs,e,hz⟩=>by subst e;rw[length_map];lia) (small (by lia)) ?_ (fun σ H2 ys ⟨_,_,s,zs,e,hz⟩ D H3 n=>by subst e;exact fin H2 H3 zs D s hz n)⟩
   rintro i σ H2 ys N hN hi ⟨v,rfl,s,zs,rfl,hz⟩
   refine⟨_,rfl,_,rfl,_,_,rfl,rfl,⟨by decide,by decide⟩,_,_,rfl,rfl,?_⟩
   exact hN _ _ _ ⟨_,rfl,s,zs++[_],by rw[map_append];rfl,by simp[hz]⟩
  refine⟨_,rfl,_,_,rfl,rfl,(by show (0:Int)<3;decide),rfl,_,rfl,?_⟩
  refine cc (fun _=>?_) (fun _=>?_)
  ·refine⟨_,rfl,m,rfl,by lia,by lia,iw (fun i σ H2 ys=>∃ v,σ=[v,some (.int f)]∧ak H' H2∧∃ zs:List Int,ys=zs.map V.int∧zs.length=i) ⟨none,rfl,ak.refl _,[],rfl,rfl⟩
    (fun i σ H2 ys _ ⟨_,_,_,zs,e,hz⟩=>by subst e;rw[length_map];lia) (small (by lia)) ?_ (fun σ H2 ys ⟨_,_,s,zs,e,hz⟩ D H3 n=>by subst e;exact fin H2 H3 zs D s hz n)⟩
   rintro i σ H2 ys N hN hi ⟨v,rfl,s,zs,rfl,hz⟩
   obtain⟨e,he,e1,e2⟩:∃ e:Int,atI [V.int 1,V.int (-1)] ((0+(i:Int)) % 2)=some (.int e)∧-(2 ^ 64)<e∧e<2 ^ 64:=by
    have h0:=Int.emod_nonneg (0+(i:Int)) (show (2:Int)≠0 by decide)
    have h1:=Int.emod_lt_of_pos (0+(i:Int)) (show (0:Int)<2 by decide)
    rcases (show (0+(i:Int)) % 2=0∨(0+(i:Int)) % 2=1 by lia) with z | z
    ·rw[z];exact⟨1,rfl,by decide,by decide⟩
    ·rw[z];exact⟨-1,rfl,by decide,by decide⟩
   refine⟨1,rfl,(by show 2≤sizeLine;decide),fun p H3 n=>?_⟩
   refine⟨_,rfl,_,_,rfl,rfl,(by show (0:Int)<2;decide),p,_,_,_,rfl,rfl,Sq.lst n.is,he,?_⟩
   refine⟨_,rfl,_,_,rfl,rfl,⟨by decide,by decide⟩,_,rfl,_,rfl,_,_,rfl,rfl,.inl ⟨by lia,by omega⟩,_,_,rfl,rfl,?_⟩
   refine⟨_,_,rfl,rfl,⟨by decide,by decide,by decide⟩,_,_,rfl,rfl,(by show (0:Int)<10 ^ Int.toNat 60;decide),_,_,rfl,rfl,.inl ⟨e1,e2⟩,?_⟩
   exact hN _ _ _ ⟨_,rfl,s.trans n.same,zs++[_],by rw[map_append];rfl,by simp[hz]⟩
  ·refine⟨_,rfl,m,rfl,by lia,by lia,iw (fun i σ H2 ys=>∃ v,σ=[v,some (.int f)]∧ak H' H2∧∃ zs:List Int,ys=zs.map V.int∧zs.length=i) ⟨none,rfl,ak.refl _,[],rfl,rfl⟩
    (fun i σ H2 ys _ ⟨_,_,_,zs,e,hz⟩=>by subst e;rw[length_map];lia) (small (by lia)) ?_ (fun σ H2 ys ⟨_,_,s,zs,e,hz⟩ D H3 n=>by subst e;exact fin H2 H3 zs D s hz n)⟩
   rintro i σ H2 ys N hN hi ⟨v,rfl,s,zs,rfl,hz⟩
   refine⟨_,_,rfl,rfl,⟨by decide,by decide,by decide⟩,_,_,rfl,rfl,?_⟩
   refine⟨_,rfl,_,_,rfl,rfl,⟨by decide,by decide⟩,_,rfl,_,_,rfl,rfl,.inl ⟨by decide,by decide⟩,_,_,rfl,rfl,?_⟩
   refine⟨_,_,rfl,rfl,⟨by decide,by decide,by decide⟩,_,_,rfl,rfl,.inl ⟨by decide,by decide⟩,_,_,rfl,rfl,_,_,rfl,rfl,(by show (0:Int)<2*10 ^ Int.toNat 60-1;decide),_,_,rfl,rfl,?_⟩
   exact hN _ _ _ ⟨_,rfl,s,zs++[_],by rw[map_append];rfl,by simp[hz]⟩
theorem cr:au ["_law_cells","_law_more","_law_most","_law_found","_law_k","_law_cell"] ["_law_cells","_law_more","_law_most"] (defScope cX):=⟨rfl,rfl,rfl,by decide +kernel,rfl,by decide +kernel,by decide +kernel⟩
theorem kf {f:Addr}{fd:FuncData}(F:Fun K "_law_numbers" "_law_numbers" cX f fd)(T:Blt mg):bh P w K mg base CX0 1 f fd ["_law_cells","_law_more","_law_most"] jm:=by
 refine F.ok (k:=0) cr (fun vs H Q E h=>?_) (fun cdv A outer s H vs Q E hr h=>?_)
 ·obtain⟨l,ns,b,m,rfl,_⟩:=h
  rfl
 ·obtain⟨l,ns,b,m,rfl,hl,m0,h63,q⟩:=h
  have hu:=aZ hr
  have hu8:=aJ hr
  refine⟨_,(ab (ai (i:=3) cr.nd rfl (Or.inl rfl) (aC ae))
   (ab (bq PassesOwn.never rfl (qf rfl T.enumerate (hZ ui (pv 0) j0 (jZ ad))) (da (n:=2) rfl (aT (ao (i:=4) cr.nd rfl (Or.inl rfl)) (aT (ao (i:=5) cr.nd rfl (Or.inl rfl)) c0)))
   (ab (a7 (pv 3) (al a9 (al bW (al dg (pv 5) ad) (al dg (pv 4) (pv 4))) ad))
    (af (bf (dB (pv 1)) (af (a7 (pv 3) (al a9 (al bW (al dg (pv 5) ad) (al dg ad (pv 4))) ad))) aM))))
   (af (ar (hZ ui (pv 3) j0 (jZ (pv 2))))))),?_⟩
  refine⟨(by show 0≤sizeLine;decide),fun p H1 n1=>?_⟩
  refine⟨_,rfl,_,rfl,l,_,rfl,.inl (n1.same _ _ hl),fun cp H2 n2=>?_⟩
  rw[nZ (show (0:Int)≤120 by decide),fN] at n2
  generalize hms:ns.take (Int.toNat 120)=ms at n2
  have hml:ms.length≤63:=by rw[←hms,length_take];lia
  have npc:p≠cp:=n2.ne n1.is
  have s2:ak H H2:=n1.same.trans n2.same
  refine⟨cp,_,rfl,.inl n2.is,ph (xs:=ms.map V.int) (fun i σ H3=>∃ kv cv,∃ zs:List Int,σ=[some (.ref l),some (.bl b),some (.int m),some (.ref p),kv,cv]∧ak H H3∧H3 p=some (.lst (zs.map V.int))∧H3 cp=some (.lst (ms.map V.int))∧zs.length≤2*i∧∀ z∈zs,0≤z)
   ⟨none,none,[],rfl,s2,n2.same _ _ n1.is,n2.is,by simp,by simp⟩ (fun i σ H3 _ ⟨_,_,_,_,_,_,e,_⟩=>.inl e) ?_ ?_⟩
  ·rintro i x σ H3 tp H4 hx ⟨kv,cv,zs,rfl,s3,hp,hc,hz,hz0⟩ n4
   obtain⟨z,ez,rfl⟩:=cA hx
   have hi:i<63:=by have:=am ez;lia
   refine⟨tp,_,rfl,.inl n4.is,rfl,_,_,rfl,_,_,rfl,rfl,?_⟩
   have hp4:=n4.same _ _ hp
   have hc4:=n4.same _ _ hc
   have hsz:(zs.map V.int).length<sizeLine:=jU (by rw[length_map];lia)
   refine⟨_,rfl,p,_,rfl,hp4,?_⟩
   refine⟨_,rfl,_,_,rfl,rfl,.inr ⟨by decide,by decide⟩,_,rfl,_,rfl,_,_,rfl,rfl,.inl ⟨by lia,by omega⟩,_,_,rfl,rfl,_,_,rfl,rfl,(by show (0:Int)<2147483647;decide),_,hp4,hsz,fun H5 c5=>?_⟩
   have s5:ak H H5:=c5.same (s3.trans n4.same) n1.was
   have hp5:H5 p=some (.lst ((zs++[(z*48271+(i:Int)*(i:Int)) % 2147483647]).map V.int)):=by rw[c5.is,map_append];rfl
   have hc5:H5 cp=some (.lst (ms.map V.int)):=by rw[c5.oth cp (Ne.symm npc)];exact hc4
   have h50:∀ y∈zs++[(z*48271+(i:Int)*(i:Int)) % 2147483647],0≤y:=fun y hy=>by
    rcases mem_append.mp hy with hy | hy
    ·exact hz0 y hy
    ·rw[mem_singleton.mp hy];exact Int.emod_nonneg _ (by decide)
   refine⟨_,rfl,_,rfl,?_⟩
   refine cc (fun _=>?_) (fun _=>?_)
   ·have hsz5:((zs++[(z*48271+(i:Int)*(i:Int)) % 2147483647]).map V.int).length<sizeLine:=jU (by rw[length_map,length_append,length_singleton];lia)
    refine⟨_,rfl,p,_,rfl,hp5,?_⟩
    refine⟨_,rfl,_,_,rfl,rfl,.inr ⟨by decide,by decide⟩,_,rfl,_,_,rfl,rfl,.inl ⟨by decide,by decide⟩,_,_,rfl,rfl,_,_,rfl,rfl,(by show (0:Int)<2147483629;decide),_,hp5,hsz5,fun H6 c6=>?_⟩
    refine⟨_,_,(zs++[(z*48271+(i:Int)*(i:Int)) % 2147483647])++[(z*69621+7*(i:Int)) % 2147483629],rfl,c6.same s5 n1.was,by rw[c6.is,map_append (l₁:=zs++_)];rfl,by rw[c6.oth cp (Ne.symm npc)];exact hc5,by rw[length_append,length_append,length_singleton,length_singleton];lia,fun y hy=>?_⟩
    rcases mem_append.mp hy with hy | hy
    ·exact h50 y hy
    ·rw[mem_singleton.mp hy];exact Int.emod_nonneg _ (by decide)
   ·exact⟨_,_,_,rfl,s5,hp5,hc5,by rw[length_append,length_singleton];lia,h50⟩
  ·rintro σ H3 ⟨kv,cv,zs,rfl,s3,hp,hc,hz,hz0⟩
   rw[length_map] at hz
   refine⟨_,rfl,_,rfl,_,rfl,p,_,rfl,.inl hp,fun r H4 n4=>?_⟩
   rw[nZ m0,fN] at n4
   exact q r _ H4 (by rw[length_take];lia) (by rw[length_take];lia) (fun z hm=>hz0 z (List.mem_of_mem_take hm)) (n4.free s3) (s3.trans n4.same) n4.is
theorem oD:au ["_law_part"] ["_law_part"] (defScope fF):=⟨rfl,rfl,rfl,by decide +kernel,rfl,by decide +kernel,by decide +kernel⟩
theorem oM {f:Addr}{fd:FuncData}(F:Fun K "_law_tile" "_law_tile" fF f fd)(T:Blt mg):bh P w K mg base CX0 1 f fd ["_law_part"] pT:=by
 refine F.ok (k:=0) oD (fun vs H Q E h=>?_) (fun cdv A outer s H vs Q E hr h=>?_)
 ·obtain⟨p,t,rfl,_⟩:=h
  rfl
 ·obtain⟨p,t,rfl,hp,q⟩:=h
  have hu:=aZ hr
  have hu8:=aJ hr
  refine⟨_,(ab (bf (dB (aA aY (pv 0) ad (fun _ _=>rfl))) (af (ar (bM (aa (aA aY (pv 0) ad (fun _ _=>rfl)) (aa (aA aY (pv 0) ad (fun _ _=>rfl)) ae))))) aM)
   (af (ar (bM (aa (aA aY (pv 0) ad (fun _ _=>rfl)) (aa (aA aY (pv 0) ad (fun _ _=>rfl)) ae)))))),?_⟩
  refine⟨_,rfl,p,_,_,_,rfl,rfl,Sq.tup hp,rfl,_,rfl,?_⟩
  refine cc (fun c=>?_) (fun c=>?_)
  ·refine⟨_,rfl,p,_,_,_,rfl,rfl,Sq.tup hp,rfl,_,rfl,p,_,_,_,rfl,rfl,Sq.tup hp,rfl,(by show 2≤sizeLine;decide),fun r H' n=>?_⟩
   refine q r H' ?_
   unfold bu
   rw[if_pos c]
   exact n
  ·refine⟨_,rfl,p,_,_,_,rfl,rfl,Sq.tup hp,rfl,_,rfl,p,_,_,_,rfl,rfl,Sq.tup hp,rfl,(by show 2≤sizeLine;decide),fun r H' n=>?_⟩
   refine q r H' ?_
   unfold bu
   rw[if_neg c]
   exact n
theorem bU:au ["_law_numbers_here","_law_size","_law_way","_law_keys","_law_k","_law_key"] ["_law_numbers_here","_law_size","_law_way"] (defScope dk):=⟨rfl,rfl,rfl,by decide +kernel,rfl,by decide +kernel,by decide +kernel⟩
theorem dP:(["_law_key","_law_k"]:List Str).Nodup:=by decide +kernel
theorem mR {f:Addr}{fd:FuncData}(F:Fun K "_law_order" "_law_order" dk f fd)(T:Blt mg):bh P w K mg base CX0 1 f fd ["_law_numbers_here","_law_size","_law_way"] nE:=by
 refine F.ok (k:=0) bU (fun vs H Q E h=>?_) (fun cdv A outer s H vs Q E hr h=>?_)
 ·obtain⟨l,zs,n,w,rfl,_⟩:=h
  rfl
 ·obtain⟨l,zs,n,w,rfl,hl,n0,hn,hz,q⟩:=h
  have hu:=aZ hr
  have hu8:=aJ hr
  refine⟨_,(ab (ai (i:=3) bU.nd rfl (Or.inl rfl) (aC ae))
   (ab (bq PassesOwn.never rfl (cH rfl T.range (aa (pv 1) ae)) (ao (i:=4) bU.nd rfl (Or.inl rfl))
   (ab (ai (i:=5) bU.nd rfl (Or.inl rfl) (al a9 (al dg (aA aY (pv 0) (pv 4) (fun _ _=>rfl)) ad) ad))
    (dC (bf (aH dM (al a9 (pv 2) ad) ad (aN _)) (af (ai (i:=5) bU.nd rfl (Or.inl rfl) (al a9 (al bW (pv 4) (al bN (pv 2) ad)) (pv 1)))) aM)
    (dC (bf (aH dM (al a9 (pv 2) ad) ad (aN _)) (af (ai (i:=5) bU.nd rfl (Or.inl rfl) (nL jP (pv 4)))) aM)
    (af (a7 (pv 3) (bM (aa (pv 5) (aa (pv 4) ae)))))))))
   (af (ar (fc rfl (cj (osc:=defScope dk) (N:=["_law_numbers_here","_law_size","_law_way","_law_keys","_law_k","_law_key"]) (N':=["_law_key","_law_k"]) (ix:=[none,none]) (by decide +kernel)) (aE (ap mH rfl T.sorted bG (aa (pv 3) ae))) (fun _ _ _ _=>(da (n:=2) rfl (aT (ao (i:=0) dP rfl (Or.inl rfl)) (aT (ao (i:=1) dP rfl (Or.inl rfl)) c0)))) (fun _ _ _ _=>cZ) (fun _ _ _ _=>(pv 1))))))),?_⟩
  refine⟨(by show 0≤sizeLine;decide),fun p H1 m1=>?_⟩
  refine⟨_,rfl,_,rfl,(by lia),(by lia),?_⟩
  refine gf (fun i σ H2=>∃ kv yv,∃ es:List (Int×Int),σ=[some (.ref l),some (.int n),some (.int w),some (.ref p),kv,yv]∧ak H H2∧Tl scT H2 p es∧es.map (·.2)=(List.range i).map fun k:Nat=>(k:Int)) ⟨none,none,[],rfl,m1.same,Tl.nil m1.is,rfl⟩ ?_ ?_
  ·rintro i σ H2 hi ⟨kv,yv,es,rfl,s,g,ge⟩
   have hl2:=s _ _ hl
   have ati:=b5 (zs:=zs) (i:=0+(i:Int)) (by lia) (by lia)
   refine⟨_,rfl,_,rfl,l,_,_,_,rfl,rfl,Sq.lst hl2,ati,_,_,rfl,rfl,.inr ⟨by decide,by decide⟩,_,_,rfl,rfl,(by show (0:Int)<2147483629;decide),?_⟩
   refine⟨fun σ H3=>H3=H2∧∃ y:Int,σ=[some (.ref l),some (.int n),some (.int w),some (.ref p),some (.int (0+(i:Int))),some (.int y)],?_,?_⟩
   ·refine⟨_,rfl,_,_,rfl,rfl,(by show (0:Int)<4;decide),rfl,_,rfl,?_⟩
    refine cc (fun _=>?_) (fun _=>?_)
    ·refine⟨_,rfl,_,rfl,_,_,rfl,rfl,⟨by decide,by decide⟩,_,_,rfl,rfl,_,rfl,_,_,rfl,rfl,(by show (0:Int)<n;lia),?_⟩
     exact⟨rfl,_,rfl⟩
    ·exact⟨rfl,_,rfl⟩
   rintro σ H3 ⟨rfl,y,rfl⟩
   refine⟨fun σ H3'=>H3'=H3∧∃ y:Int,σ=[some (.ref l),some (.int n),some (.int w),some (.ref p),some (.int (0+(i:Int))),some (.int y)],?_,?_⟩
   ·refine⟨_,rfl,_,_,rfl,rfl,(by show (0:Int)<4;decide),rfl,_,rfl,?_⟩
    refine cc (fun _=>?_) (fun _=>?_)
    ·exact⟨_,rfl,_,rfl,rfl,_,rfl⟩
    ·exact⟨rfl,_,rfl⟩
   rintro σ H3' ⟨rfl,y',rfl⟩
   obtain⟨vs,v1,v2⟩:=g.len
   refine⟨_,rfl,p,_,rfl,v1,?_⟩
   refine⟨_,rfl,_,rfl,(by show 2≤sizeLine;decide),fun tp H4 n4=>?_⟩
   obtain⟨ws,w1,w2,w3⟩:=(g.same n4.same).snoc (x:=(y',0+(i:Int))) n4.is
   have hel:es.length=i:=by have:=congrArg List.length ge;simpa using this
   refine⟨_,w1,jU (by lia),fun H5 c5=>?_⟩
   refine⟨_,_,es++[(y',0+(i:Int))],rfl,c5.same (s.trans n4.same) m1.was,w3 H5 c5,?_⟩
   rw[map_append,ge,range_succ,map_append]
   simp
  ·rintro σ H2 ⟨kv,yv,es,rfl,s,g,ge⟩
   obtain⟨ps,g1,g2,g3⟩:=id g
   have hel:es.length=n.toNat:=by have:=congrArg List.length ge;simpa using this
   have hzip:(ps.zip es).map (fun e=>V.ref e.1)=ps.map V.ref:=by
    rw[show (fun e:Addr×Int×Int=>V.ref e.1)=V.ref∘Prod.fst from rfl,←map_map,List.map_fst_zip (by lia)]
   have hzip2:(ps.zip es).map (fun e=>e.2.2)=(List.range n.toNat).map fun k:Nat=>(k:Int):=by
    rw[show (fun e:Addr×Int×Int=>e.2.2)=(fun t:Int×Int=>t.2)∘Prod.snd from rfl,←map_map,map_snd_zip (by lia),ge]
   have hmem:∀ e∈ps.zip es,H2 e.1=some (.tup [.int e.2.1,.int e.2.2]):=fun e he=>by
    obtain⟨j,hj⟩:=getElem?_of_mem he
    rw[List.getElem?_zip_eq_some] at hj
    exact g3 j e.1 e.2 hj.1 hj.2
   refine⟨_,rfl,p,ps.zip es,rfl,.inl (by rw[hzip];exact g1),fun e he=>.inl (hmem e he),fun r fs H3 pf _ n3=>?_⟩
   have hfl:fs.length≤126:=by rw[pf.length_eq,List.length_zip];lia
   have s3:=s.trans n3.same
   refine⟨r,_,rfl,.inl n3.is,kj (xs:=fs.map fun e=>V.ref e.1) (fun i σ H4 ys=>∃ a b,σ=[a,b]∧ak H3 H4∧ys=(fs.take i).map fun e=>V.int e.2.2) ⟨none,none,rfl,ak.refl _,rfl⟩
    (fun i σ H4 ys hi ⟨_,_,_,s4,e⟩=>⟨.inl (s4 _ _ n3.is),by rw[e,length_map,length_take];lia⟩) (small (by rw[length_map];lia)) ?_ ?_⟩
   ·rintro i x σ H4 ys N hN hx ⟨a,b,rfl,s4,rfl⟩
    rw[getElem?_map] at hx
    cases ef:fs[i]? with
    | none=>rw[ef] at hx;cases hx
    | some e =>
      rw[ef] at hx
      have hx':=Option.some.inj hx
      subst hx'
      have he:e∈ps.zip es:=pf.mem_iff.mp (mem_of_getElem? ef)
      refine⟨e.1,_,rfl,.inl (s4 _ _ (n3.same _ _ (hmem e he))),rfl,_,_,rfl,_,_,rfl,rfl,?_⟩
      refine⟨_,rfl,?_⟩
      refine hN _ _ _ ⟨_,_,rfl,s4,?_⟩
      rw[take_add_one,ef]
      simp
   ·rintro σ H4 ys ⟨a,b,rfl,s4,rfl⟩ D H5 n5
    rw[length_map,take_of_length_le (Nat.le_refl _)] at n5
    have pm:(fs.map fun e=>e.2.2).Perm ((List.range n.toNat).map fun k:Nat=>(k:Int)):=hzip2▸pf.map (fun e=>e.2.2)
    obtain⟨os,po,eo⟩:=fo pm (List.range n.toNat) rfl
    refine q D os H5 po (n5.free (s3.trans s4)) (s3.trans (s4.trans n5.same)) ?_
    rw[n5.is,show (fun e:Addr×Int×Int=>V.int e.2.2)=V.int∘(fun e=>e.2.2) from rfl,←map_map,eo,map_map]
    rfl
theorem mK:au ["_law_parts","_law_order_here"] ["_law_parts","_law_order_here"] (defScope dj):=⟨rfl,rfl,rfl,by decide +kernel,rfl,by decide +kernel,by decide +kernel⟩
theorem gD:(["_law_k","_law_parts"]:List Str).Nodup:=by decide +kernel
theorem mQ {f:Addr}{fd:FuncData}(F:Fun K "_law_tiles" "_law_tiles" dj f fd)(T:Blt mg)(c_l_tile:aF P w K mg base 1 "_law_tile" ["_law_part"] pT):bh P w K mg base CX0 2 f fd ["_law_parts","_law_order_here"] nA:=by
 refine F.ok (k:=1) mK (fun vs H Q E h=>?_) (fun cdv A outer s H vs Q E hr h=>?_)
 ·obtain⟨p,o,ps,os,rfl,_⟩:=h
  rfl
 ·obtain⟨p,o,ps,os,rfl,hp,ho,hlt,h126,q⟩:=h
  have hu:=aZ hr
  have hu8:=aJ hr
  refine⟨_,(af (ar (fc rfl (cj (osc:=defScope dj) (N:=["_law_parts","_law_order_here"]) (N':=["_law_k","_law_parts"]) (ix:=[none,some 0]) (by decide +kernel)) (aE (pv 1)) (fun _ _ _ _=>(ao (i:=0) gD rfl (Or.inl rfl))) (fun _ _ _ _=>cZ) (fun _ _ _ _=>(aj c_l_tile (hr.mono (by decide)) rfl (aa (aA aY (pv 1) (pv 0) (fun _ _=>rfl)) ae)))))),?_⟩
  refine⟨_,rfl,o,_,rfl,.inl ho,kj (xs:=os.map nI) (fun i σ H2 ys=>∃ v,σ=[v,some (.ref p)]∧ak H H2∧Tg scT H2 ys ((os.take i).map fun k=>bu (ps.getD k (0,0,false)))) ⟨none,rfl,ak.refl _,Tg.nil⟩
   (fun i σ H2 ys hi ⟨_,_,s,g⟩=>⟨.inl (s _ _ ho),by rw[g.len,length_map,length_take];lia⟩) (small (by rw[length_map];lia)) ?_ ?_⟩
  ·rintro i x σ H2 ys N hN hx ⟨v,rfl,s,g⟩
   rw[getElem?_map] at hx
   cases ek:os[i]? with
   | none=>rw[ek] at hx;cases hx
   | some k =>
     rw[ek] at hx
     have hx':=Option.some.inj hx
     subst hx'
     have hk:=hlt k (mem_of_getElem? ek)
     obtain⟨qs,tp,t,e1,e2,e3,e4,e5⟩:=(hp.same s).atI (i:=(k:Int)) (by lia) (by lia)
     have e4':ps[k]? = some t:=e4
     have et:ps.getD k (0,0,false)=t:=by rw[getD_eq_getElem?_getD,e4'];rfl
     refine⟨_,rfl,_,rfl,p,_,_,_,rfl,rfl,Sq.lst e1,e3,tp,t,rfl,e5,fun r H3 n3=>?_⟩
     refine hN _ _ _ ⟨_,rfl,s.trans n3.same,?_⟩
     rw[take_add_one,ek,map_append]
     refine g.snoc n3.same ?_
     show H3 r=some (.tup (scT (bu (ps.getD k (0,0,false)))))
     rw[et]
     exact n3.is
  ·rintro σ H2 ys ⟨v,rfl,s,g⟩ D H3 n3
   rw[length_map,take_of_length_le (Nat.le_refl _)] at g
   exact q D H3 (n3.free s) (s.trans n3.same) (g.tl n3)
theorem mL:au ["_law_tiles_here"] ["_law_tiles_here"] (defScope cG):=⟨rfl,rfl,rfl,by decide +kernel,rfl,by decide +kernel,by decide +kernel⟩
theorem gI:(["_law_tile_here"]:List Str).Nodup:=by decide +kernel
theorem gH:(["_law_tile_here"]:List Str).Nodup:=by decide +kernel
theorem mT {f:Addr}{fd:FuncData}(F:Fun K "_law_marks" "_law_marks" cG f fd)(T:Blt mg):bh P w K mg base CX0 1 f fd ["_law_tiles_here"] nG:=by
 refine F.ok (k:=0) mL (fun vs H Q E h=>?_) (fun cdv A outer s H vs Q E hr h=>?_)
 ·obtain⟨l,ts,rfl,_⟩:=h
  rfl
 ·obtain⟨l,ts,rfl,hT,h1000,q⟩:=h
  have hu:=aZ hr
  have hu8:=aJ hr
  refine⟨_,(af (ar (ap (pZ rfl) rfl T.sorted bG (aa (eU (uj rfl) rfl T.set tT (aa (al qQ (fc rfl (cj (osc:=defScope cG) (N:=["_law_tiles_here"]) (N':=["_law_tile_here"]) (ix:=[none]) (by decide +kernel)) (aE (pv 0)) (fun _ _ _ _=>(ao (i:=0) gI rfl (Or.inl rfl))) (fun _ _ _ _=>cZ) (fun _ _ _ _=>(aA aY (pv 0) ad (fun _ _=>rfl)))) (fc rfl (cj (osc:=defScope cG) (N:=["_law_tiles_here"]) (N':=["_law_tile_here"]) (ix:=[none]) (by decide +kernel)) (aE (pv 0)) (fun _ _ _ _=>(ao (i:=0) gH rfl (Or.inl rfl))) (fun _ _ _ _=>cZ) (fun _ _ _ _=>(aA aY (pv 0) ad (fun _ _=>rfl))))) ae)) ae)))),?_⟩
  obtain⟨vs,v0,g⟩:=hT.tg
  have v2:=g.len
  refine⟨_,rfl,l,_,rfl,.inl v0,dq (xs:=vs) (fun i σ H2 ys=>∃ a,σ=[a]∧ak H H2∧ys=((ts.take i).map (·.1)).map V.int) ⟨none,rfl,ak.refl _,rfl⟩
   (fun i σ H2 ys hi ⟨_,_,s,e⟩=>⟨.inl (s _ _ v0),by rw[e,length_map,length_map,length_take];lia⟩) (small (by lia)) ?_ ?_⟩
  ·rintro i x σ H2 ys N hN hx ⟨a,rfl,s,rfl⟩
   obtain⟨tp,t,rfl,et,htp⟩:=g.get hx
   refine⟨_,rfl,tp,_,_,_,rfl,rfl,Sq.tup (s _ _ htp),rfl,?_⟩
   refine hN _ _ _ ⟨_,rfl,s,?_⟩
   rw[take_add_one,et]
   simp
  rintro σ H2 ys ⟨a,rfl,s2,rfl⟩ D1 H3 n3
  rw[v2,take_of_length_le (Nat.le_refl _)] at n3
  have s3:=s2.trans n3.same
  refine⟨_,rfl,l,_,rfl,.inl (s3 _ _ v0),dq (xs:=vs) (fun i σ H2 ys=>∃ a,σ=[a]∧ak H3 H2∧ys=((ts.take i).map (·.2)).map V.int) ⟨none,rfl,ak.refl _,rfl⟩
   (fun i σ H2 ys hi ⟨_,_,s,e⟩=>⟨.inl (s _ _ (s3 _ _ v0)),by rw[e,length_map,length_map,length_take];lia⟩) (small (by lia)) ?_ ?_⟩
  ·rintro i x σ H4 ys N hN hx ⟨a,rfl,s,rfl⟩
   obtain⟨tp,t,rfl,et,htp⟩:=g.get hx
   refine⟨_,rfl,tp,_,_,_,rfl,rfl,Sq.tup (s _ _ (s3 _ _ htp)),rfl,?_⟩
   refine hN _ _ _ ⟨_,rfl,s,?_⟩
   rw[take_add_one,et]
   simp
  rintro σ H4 ys ⟨a,rfl,s4,rfl⟩ D2 H5 n5
  rw[v2,take_of_length_le (Nat.le_refl _)] at n5
  have s5:=s3.trans (s4.trans n5.same)
  refine⟨D1,D2,_,_,rfl,rfl,n5.same _ _ (s4 _ _ n3.is),n5.is,bx (by simp only[length_map];lia),fun p H6 n6=>?_⟩
  rw[←map_append] at n6
  have s6:=s5.trans n6.same
  refine⟨p,_,rfl,.inl n6.is,(by rw[length_append,length_map,length_map];show _<4096;lia),fun st ks H7 kn km n7=>?_⟩
  refine⟨st,ks,rfl,n7.is,fun l' ms H8 pm wm n8=>?_⟩
  have s8:=s6.trans (n7.same.trans n8.same)
  exact q l' ms H8 ⟨cF wm (pm.nodup_iff.mpr kn),fun x=>pm.mem_iff.trans ((km x).trans (fS ts x).symm)⟩ (n8.free (s6.trans n7.same)) s8 n8.is
theorem br:au ["_law_tiles_here","_law_start","_law_reached_here","_law_size","_law_one","_law_other"] ["_law_tiles_here","_law_start"] (defScope cW):=⟨rfl,rfl,rfl,by decide +kernel,rfl,by decide +kernel,by decide +kernel⟩
theorem kd {f:Addr}{fd:FuncData}(F:Fun K "_law_reached" "_law_reached" cW f fd)(T:Blt mg):bh P w K mg base CX0 1 f fd ["_law_tiles_here","_law_start"] jk:=by
 refine F.ok (k:=0) br (fun vs H Q E h=>?_) (fun cdv A outer s H vs Q E hr h=>?_)
 ·obtain⟨l,ts,s,rfl,_⟩:=h
  rfl
 ·obtain⟨l,ts,s,rfl,hT,h1000,q⟩:=h
  have hu:=aZ hr
  have hu8:=aJ hr
  refine⟨_,(ab (ai (i:=2) br.nd rfl (Or.inl rfl) (lq (pv 1) ck))
   (ab (ai (i:=3) br.nd rfl (Or.inl rfl) ad)
   (ab (ee PassesOwn.never (aH lw (pv 3) (ap jG rfl T.len ba (aa (pv 2) ae)) (aN _))
   (ab (ai (i:=3) br.nd rfl (Or.inl rfl) (ap jG rfl T.len ba (aa (pv 2) ae)))
    (af (bq PassesOwn.never rfl (aE (pv 0)) (da (n:=2) rfl (aT (ao (i:=4) br.nd rfl (Or.inl rfl)) (aT (ao (i:=5) br.nd rfl (Or.inl rfl)) c0)))
    (af (bf (PW.pt (lj (dZ (ql hu (pv 4) (pv 2))) (g8 (dZ (ql hu (pv 5) (pv 2)))))) (ab (bK hu (pv 2) (pv 4) ck rfl)
     (af (bK hu (pv 2) (pv 5) ck rfl))) aM))))))
   (af (ar (ap (eM rfl) rfl T.sorted bG (aa (pv 2) ae))))))),?_⟩
  obtain⟨vs,v0,g⟩:=hT.tg
  have v2:=g.len
  refine fun d H1 n1=>⟨_,rfl,Sum.inl s,rfl,n1.is,fun H2 c2=>?_⟩
  have s2:=c2.same n1.same n1.was
  have bound:∀ ks:List Int,ks.Nodup→(∀ x∈ks,aq ts s x)→ks.length≤2*ts.length+1:=fun ks kn hr=>by
   have:=aD (b:=s :: flat ts) kn fun x hx=>(hr x hx).among
   rwa [length_cons,bg] at this
  refine⟨fun m σ H3=>∃ (ks:List Int) (z:Nat),∃ av bv,σ=[some (.ref l),some (.int s),some (.ref d),some (.int (z:Nat)),av,bv]∧ak H H3∧H3 d=some (.dK (kvT ks))∧ks.Nodup∧s∈ks∧(∀ x∈ks,aq ts s x)∧z≤ks.length∧(z=ks.length→mo ts (·∈ks))∧m=2*ts.length+2-z,
   ⟨_,[s],0,none,none,rfl,s2,c2.is,by simp,by simp,by simp[aq.refl],by simp,by simp,rfl⟩,?_⟩
  rintro m σ H3 ⟨ks,z,av,bv,rfl,s3,hd,kn,hs,hr,hz,hsh,rfl⟩
  have hkl:=bound ks kn hr
  refine⟨_,rfl,_,rfl,d,_,rfl,hd,_,_,rfl,rfl,_,rfl,?_⟩
  rw[dF]
  refine cc (fun c=>?_) (fun c=>?_)
  ·have c':(z:Int)<(ks.length:Nat):=of_decide_eq_true c
   refine⟨fun σ' H'=>∃ (ks':List Int),∃ av bv,σ'=[some (.ref l),some (.int s),some (.ref d),some (.int (ks.length:Nat)),av,bv]∧ak H H'∧H' d=some (.dK (kvT ks'))∧ks'.Nodup∧s∈ks'∧(∀ x∈ks',aq ts s x)∧ks.length≤ks'.length∧(ks.length=ks'.length→mo ts (·∈ks')),
    fun σ' H' ⟨ks',av,bv,e,h1,h2,h3,h4,h5,h6,h7⟩=>⟨2*ts.length+2-ks.length,by lia,ks',ks.length,av,bv,e,h1,h2,h3,h4,h5,h6,h7,rfl⟩,?_⟩
   refine⟨_,rfl,d,_,rfl,hd,?_⟩
   rw[dF]
   refine⟨_,rfl,l,_,rfl,.inl (s3 _ _ v0),aX (xs:=vs) (fun i σ H4=>∃ (ks':List Int),∃ av bv,σ=[some (.ref l),some (.int s),some (.ref d),some (.int (ks.length:Nat)),av,bv]∧ak H H4∧H4 d=some (.dK (kvT ks'))∧ks'.Nodup∧s∈ks'∧(∀ x∈ks',aq ts s x)∧ks.length≤ks'.length∧(ks.length=ks'.length→mo (ts.take i) (·∈ks')))
    ⟨ks,_,_,rfl,s3,hd,kn,hs,hr,Nat.le_refl _,fun _ t ht=>by simp at ht⟩ (fun i σ H4 _ ⟨_,_,_,_,s,_⟩=>.inl (s _ _ v0)) ?_ ?_⟩
   ·rintro i x σ H4 hx ⟨ks',av,bv,rfl,s4,hd4,kn',hs',hr',hle,hsh'⟩
    obtain⟨tp,t,rfl,et,htp⟩:=g.get hx
    have htm:t∈ts:=mem_of_getElem? et
    have hkl':=bound ks' kn' hr'
    have htk:ts.take (i+1)=ts.take i++[t]:=by rw[take_add_one,et];rfl
    refine⟨tp,_,rfl,.inl (s4 _ _ htp),rfl,_,_,rfl,_,_,rfl,rfl,?_⟩
    refine pP (decide (t.1∈ks')) (decide (t.2∈ks')) (fun Q' q'=>?_) (fun Q' q'=>?_) ?_
    ·refine⟨_,rfl,_,rfl,d,_,rfl,cD.k (k:=Sum.inl t.1) hd4,_,rfl,?_⟩
     rw[fO]
     exact q'
    ·refine⟨_,rfl,_,rfl,d,_,rfl,cD.k (k:=Sum.inl t.2) hd4,_,rfl,?_⟩
     rw[fO]
     exact q'
    refine cc (fun c=>?_) (fun c=>?_)
    ·have r12:aq ts s t.1∧aq ts s t.2:=by
      rw[Bool.or_eq_true] at c
      rcases c with z | z
      ·have r:=hr' _ (of_decide_eq_true z)
       exact⟨r,r.trans (aq.tile htm)⟩
      ·have r:=hr' _ (of_decide_eq_true z)
       exact⟨r.trans (aq.tile htm).symm,r⟩
     have l1:=nT ks' t.1
     have l2:=nT (ins ks' t.1) t.2
     refine⟨_,rfl,_,rfl,d,_,Sum.inl t.1,rfl,hd4,rfl,aw (by rw[dF];lia),fun H5 c5=>?_⟩
     rw[fP] at c5
     refine⟨_,rfl,_,rfl,d,_,Sum.inl t.2,rfl,c5.is,rfl,aw (by rw[dF];lia),fun H6 c6=>?_⟩
     rw[fP] at c6
     refine⟨ins (ins ks' t.1) t.2,_,_,rfl,c6.same (c5.same s4 n1.was) n1.was,c6.is,eW (eW kn' _) _,?_,fun x hx=>?_,by lia,fun hl=>?_⟩
     ·rw[fR,fR];exact .inl (.inl hs')
     ·rw[fR,fR] at hx
      rcases hx with (hx | hx) | hx
      ·exact hr' x hx
      ·rw[hx];exact r12.1
      ·rw[hx];exact r12.2
     ·obtain⟨m1,e1⟩:=l1.2.2 (by lia)
      rw[e1] at l2 hl ⊢
      obtain⟨m2,e2⟩:=l2.2.2 (by lia)
      rw[e2] at hl ⊢
      intro u hu
      rw[htk] at hu
      rcases mem_append.mp hu with hu | hu
      ·exact hsh' (by assumption) u hu
      ·rw[mem_singleton.mp hu];exact⟨fun _=>m2,fun _=>m1⟩
    ·rw[Bool.or_eq_true,not_or] at c
     refine⟨ks',_,_,rfl,s4,hd4,kn',hs',hr',hle,fun hl u hu=>?_⟩
     rw[htk] at hu
     rcases mem_append.mp hu with hu | hu
     ·exact hsh' hl u hu
     ·rw[mem_singleton.mp hu];exact⟨fun z=>absurd (decide_eq_true z) c.1,fun z=>absurd (decide_eq_true z) c.2⟩
   ·rintro σ H4 ⟨ks',av,bv,rfl,s4,hd4,kn',hs',hr',hle,hsh'⟩
    rw[v2,take_of_length_le (Nat.le_refl _)] at hsh'
    exact⟨ks',av,bv,rfl,s4,hd4,kn',hs',hr',hle,hsh'⟩
  ·have c':¬ (z:Int)<(ks.length:Nat):=fun y=>c (decide_eq_true y)
   refine⟨_,rfl,d,kvT ks,ks,rfl,.inl hd,lR ks,fun l' ms H5 pm wm n5=>?_⟩
   exact q l' ms H5 ⟨cF wm (pm.nodup_iff.mpr kn),fun x=>pm.mem_iff.trans (jr hs hr (hsh (by lia)) x)⟩ (n5.free s3) (s3.trans n5.same) n5.is
theorem ca:au ["_law_tiles_here","_law_found","_law_left","_law_group"] ["_law_tiles_here"] (defScope cO):=⟨rfl,rfl,rfl,by decide +kernel,rfl,by decide +kernel,by decide +kernel⟩
theorem gl:(["_law_mark","_law_group"]:List Str).Nodup:=by decide +kernel
theorem lF {f:Addr}{fd:FuncData}(F:Fun K "_law_groups" "_law_groups" cO f fd)(T:Blt mg)(c_l_marks:aF P w K mg base 1 "_law_marks" ["_law_tiles_here"] nG)(c_l_reached:aF P w K mg base 1 "_law_reached" ["_law_tiles_here","_law_start"] jk):bh P w K mg base CX0 2 f fd ["_law_tiles_here"] kX:=by
 refine F.ok (k:=1) ca (fun vs H Q E h=>?_) (fun cdv A outer s H vs Q E hr h=>?_)
 ·obtain⟨l,ts,rfl,_⟩:=h
  rfl
 ·obtain⟨l,ts,rfl,hT,h1000,q⟩:=h
  have hu:=aZ hr
  have hu8:=aJ hr
  refine⟨_,(ab (ai (i:=1) ca.nd rfl (Or.inl rfl) (aC ae))
   (ab (ai (i:=2) ca.nd rfl (Or.inl rfl) (aj c_l_marks (hr.mono (by decide)) rfl (aa (pv 0) ae)))
   (ab (ee PassesOwn.never (aH (qp hu8) (pv 2) (aC ae) (aN _))
   (ab (ai (i:=3) ca.nd rfl (Or.inr rfl) (aj c_l_reached (hr.mono (by decide)) rfl (aa (pv 0) (aa (aA aY (pv 2) ad (fun _ _=>rfl)) ae))))
    (ab (a7 (pv 1) (pv 3))
    (af (sD (i:=2) rfl (cj (osc:=defScope cO) (N:=["_law_tiles_here","_law_found","_law_left","_law_group"]) (N':=["_law_mark","_law_group"]) (ix:=[none,some 3]) (by decide +kernel)) ca.nd rfl rfl (aE (pv 2)) (fun _ _ _ _=>(ao (i:=0) gl rfl (Or.inl rfl))) (fun _ _ _ _=>(gO (aH rL (pv 0) (pv 1) (by with_unfolding_all rfl)))) (fun _ _ _ _=>(pv 0)))))))
   (af (ar (pv 1)))))),?_⟩
  refine⟨(by show 0≤sizeLine;decide),fun lp H1 n1=>?_⟩
  refine⟨_,rfl,l,ts,rfl,hT.same n1.same,h1000,fun lm ms H2 im hlm s2 hm=>?_⟩
  have hpm:lp≠lm:=fun z=>by have h:=n1.is;rw[z,hlm] at h;cases h
  refine⟨fun m σ H3=>∃ (ps:List Addr) (Ps:List (List Int)) (left:List Int) (ll:Addr),∃ gv,σ=[some (.ref l),some (.ref lp),some (.ref ll),gv]∧ak H H3∧Lol H3 lp ps Ps∧lp∉ps∧H3 ll=some (.lst (left.map V.int))∧ll≠lp∧GrI ts Ps left∧m=left.length,
   ⟨_,[],[],ms,lm,none,rfl,n1.same.trans s2,Lol.nil (s2 _ _ n1.is),by simp,hm,hpm.symm,⟨by simp,by simp[bA],by simp,by simp,im.1,fun x=>by simpa using im.2 x,by simp[bA]⟩,rfl⟩,?_⟩
  rintro m σ H3 ⟨ps,Ps,left,ll,gv,rfl,s3,lol,hnp,hll,hne,gr,rfl⟩
  have hfl:Ps.flatten.length≤2*ts.length:=by
   have h2:=aD (b:=flat ts) gr.once gr.among
   rwa [bg] at h2
  have hPl:Ps.length≤2*ts.length:=Nat.le_trans (eJ fun P hP=>by obtain⟨m,h1,_⟩:=gr.part P hP;exact⟨m,h1⟩) hfl
  have hleft:left.length≤2*ts.length:=by
   have h2:=aD (b:=flat ts) (gr.sort.imp fun z=>Int.ne_of_lt z) fun x hx=>((gr.mem x).mp hx).1
   rwa [bg] at h2
  refine⟨_,rfl,(by show 0≤sizeLine;decide),fun z H4 n4=>?_⟩
  have hll4:=n4.same _ _ hll
  refine⟨ll,z,_,rfl,rfl,.inl hll4,.inl n4.is,_,rfl,?_⟩
  cases left with
  | nil=>exact⟨_,rfl,q lp ps Ps H4 gr.done n1.was (s3.trans n4.same) (lol.same n4.same)⟩
  | cons m r =>
    refine⟨fun σ' H'=>∃ (ps:List Addr) (Ps:List (List Int)) (left:List Int) (ll:Addr),∃ gv,σ'=[some (.ref l),some (.ref lp),some (.ref ll),gv]∧ak H H'∧Lol H' lp ps Ps∧lp∉ps∧H' ll=some (.lst (left.map V.int))∧ll≠lp∧GrI ts Ps left∧left.length≤r.length,
     fun σ' H' ⟨ps,Ps,left,ll,gv,e,h1,h2,h3,h4,h5,h6,h7⟩=>⟨left.length,by rw[length_cons];lia,ps,Ps,left,ll,gv,e,h1,h2,h3,h4,h5,h6,rfl⟩,?_⟩
    have hat:atI ((m :: r).map V.int) 0=some (.int m):=kD (j:=0) rfl
    refine⟨_,rfl,_,rfl,ll,_,_,_,rfl,rfl,Sq.lst hll4,hat,l,ts,m,rfl,hT.same (s3.trans n4.same),h1000,fun lg P H5 hP hlg s5 hg=>?_⟩
    have lol5:=(lol.same n4.same).same s5
    have hglp:lg≠lp:=fun zz=>by have h:=n4.same _ _ lol.1;rw[←zz,hlg] at h;cases h
    refine⟨_,rfl,lp,_,rfl,lol5.1,_,rfl,_,lol5.1,aw (by rw[length_map,lol5.2.1];lia),fun H6 c6=>?_⟩
    have lol6:=lol5.snoc hnp hg hglp c6
    have s6:ak H H6:=c6.same (s3.trans (n4.same.trans s5)) n1.was
    have hll6:H6 ll=some (.lst ((m :: r).map V.int)):=by rw[c6.oth ll hne];exact s5 _ _ hll4
    have hg6:H6 lg=some (.lst (P.map V.int)):=by rw[c6.oth lg hglp];exact hg
    refine⟨_,rfl,ll,_,rfl,.inl hll6,dq (xs:=(m :: r).map V.int) (fun i σ H7 ys=>∃ v,σ=[v,some (.ref lg)]∧ak H6 H7∧ys=(((m :: r).take i).filter fun x=>decide (x∉P)).map V.int) ⟨none,rfl,ak.refl _,rfl⟩
     (fun i σ H7 ys hi ⟨_,_,s,e⟩=>⟨.inl (s _ _ hll6),?_⟩) (bx (by rw[length_map];lia)) ?_ ?_⟩
    ·rw[e,length_map]
     exact Nat.le_trans (length_filter_le _ _) (by rw[length_take];lia)
    ·rintro i x σ H7 ys N hN hx ⟨v,rfl,s7,rfl⟩
     obtain⟨y,ey,rfl⟩:=cA hx
     have key:((m :: r).take (i+1)).filter (fun x=>decide (x∉P))=((m :: r).take i).filter (fun x=>decide (x∉P))++if decide (y∉P)=true then [y] else []:=de ey
     refine⟨_,rfl,_,rfl,lg,y,P,rfl,rfl,.inl (s7 _ _ hg6),_,rfl,?_⟩
     by_cases hy:y∈P
     ·rw[decide_eq_true hy]
      refine hN _ _ _ ⟨_,rfl,s7,?_⟩
      rw[key,if_neg (by simpa using hy),append_nil]
     ·rw[decide_eq_false hy]
      refine⟨_,rfl,hN _ _ _ ⟨_,rfl,s7,?_⟩⟩
      rw[key,if_pos (decide_eq_true hy),map_append]
      rfl
    ·rintro σ H7 ys ⟨v,rfl,s7,rfl⟩ D H8 n8
     rw[length_map,take_of_length_le (Nat.le_refl _)] at n8
     have s68:=s7.trans n8.same
     refine⟨ps++[lg],Ps++[P],_,D,_,rfl,s6.trans s68,lol6.same s68,fun zz=>?_,n8.is,fun zz=>?_,gr.step hP,?_⟩
     ·rcases mem_append.mp zz with zz | zz
      ·exact hnp zz
      ·exact hglp (mem_singleton.mp zz).symm
     ·have h:=s7 _ _ lol6.1
      rw[←zz,n8.was] at h
      cases h
     ·have hmP:m∈P:=(hP.2 m).mpr aq.refl
      rw[filter_cons,if_neg (by simpa using hmP)]
      exact length_filter_le _ _
theorem eN:au ["_law_tiles_here","_law_ends","_law_one","_law_other"] ["_law_tiles_here"] (defScope dY):=⟨rfl,rfl,rfl,by decide +kernel,rfl,by decide +kernel,by decide +kernel⟩
theorem iK:(["_law_mark","_law_ends"]:List Str).Nodup:=by decide +kernel
theorem oP {f:Addr}{fd:FuncData}(F:Fun K "_law_odds" "_law_odds" dY f fd)(T:Blt mg):bh P w K mg base CX0 1 f fd ["_law_tiles_here"] sr:=by
 refine F.ok (k:=0) eN (fun vs H Q E h=>?_) (fun cdv A outer s H vs Q E hr h=>?_)
 ·obtain⟨l,ts,rfl,_⟩:=h
  rfl
 ·obtain⟨l,ts,rfl,hT,h1000,q⟩:=h
  have hu:=aZ hr
  have hu8:=aJ hr
  refine⟨_,(ab (ai (i:=1) eN.nd rfl (Or.inr rfl) dm)
   (ab (bq PassesOwn.never rfl (aE (pv 0)) (da (n:=2) rfl (aT (ao (i:=2) eN.nd rfl (Or.inl rfl)) (aT (ao (i:=3) eN.nd rfl (Or.inl rfl)) c0)))
   (ab (bK hu (pv 1) (pv 2) (al eA ad (er hu (pv 1) (pv 2) ad ⟨rfl,rfl,rfl,rfl⟩)) rfl)
    (af (bK hu (pv 1) (pv 3) (al eA ad (er hu (pv 1) (pv 3) ad ⟨rfl,rfl,rfl,rfl⟩)) rfl))))
   (af (ar (fc rfl (cj (osc:=defScope dY) (N:=["_law_tiles_here","_law_ends","_law_one","_law_other"]) (N':=["_law_mark","_law_ends"]) (ix:=[none,some 1]) (by decide +kernel)) (aE (ap (eM rfl) rfl T.sorted bG (aa (pv 1) ae))) (fun _ _ _ _=>(ao (i:=0) iK rfl (Or.inl rfl))) (fun _ _ _ _=>(gO (aH dM (j7 hu (pv 1) (pv 0) (fun _ _=>rfl)) ad (aN _)))) (fun _ _ _ _=>(pv 0))))))),?_⟩
  refine fun d H1 n1=>?_
  obtain⟨vs,v0,g⟩:=hT.tg
  have v2:=g.len
  refine⟨_,rfl,l,_,rfl,.inl (n1.same _ _ v0),aX (xs:=vs) (fun i σ H2=>∃ av bv,∃ es:List (Int×Int),σ=[some (.ref l),some (.ref d),av,bv]∧ak H H2∧H2 d=some (.dK (kvE es))∧CF qm es (flat (ts.take i)))
   ⟨none,none,[],rfl,n1.same,n1.is,by simp,by simp[flat],by simp⟩ (fun i σ H2 _ ⟨_,_,_,_,s,_⟩=>.inl (s _ _ v0)) ?_ ?_⟩
  ·rintro i x σ H2 hx ⟨av,bv,es,rfl,s,hd,ci⟩
   obtain⟨tp,t,rfl,et,htp⟩:=g.get hx
   have hi:=am et
   have hl1:es.length≤2*i:=by
    have h0:=ci.len
    rw[bg,length_take] at h0
    lia
   refine⟨tp,_,rfl,.inl (s _ _ htp),rfl,_,_,rfl,_,_,rfl,rfl,?_⟩
   obtain⟨es1,p1,c1⟩:=ci.put t.1
   obtain⟨es2,p2,c2⟩:=c1.put t.2
   rw[oI] at p1 p2
   have hl2:es1.length≤2*i+1:=by
    have h0:=c1.len
    rw[length_append,bg,length_take] at h0
    simp at h0
    lia
   refine⟨_,rfl,d,rfl,.inl ⟨_,.inl hd⟩,_,rfl,_,cD.k (k:=Sum.inl t.1) hd,?_⟩
   rw[show (bo (kvE es) (Sum.inl t.1)).getD (V.int 0)=_ from ci.get rfl t.1]
   refine⟨_,_,rfl,rfl,_,rfl,_,rfl,d,_,Sum.inl t.1,rfl,hd,rfl,aw (by unfold kvE;rw[length_map];lia),fun H3 c3=>?_⟩
   rw[p1] at c3
   refine⟨_,rfl,d,rfl,.inl ⟨_,.inl c3.is⟩,_,rfl,_,cD.k (k:=Sum.inl t.2) c3.is,?_⟩
   rw[show (bo (kvE es1) (Sum.inl t.2)).getD (V.int 0)=_ from c1.get rfl t.2]
   refine⟨_,_,rfl,rfl,_,rfl,_,rfl,d,_,Sum.inl t.2,rfl,c3.is,rfl,aw (by unfold kvE;rw[length_map];lia),fun H4 c4=>?_⟩
   rw[p2] at c4
   refine⟨_,_,es2,rfl,c4.same (c3.same s n1.was) n1.was,c4.is,?_⟩
   rw[jy et]
   exact c2
  ·rintro σ H2 ⟨av,bv,es,rfl,s,hd,ci⟩
   rw[v2,take_of_length_le (Nat.le_refl _)] at ci
   refine⟨_,rfl,d,kvE es,es.map (·.1),rfl,.inl hd,(by unfold kvE;rw[map_map,map_map];rfl),fun lk ms H3 pm wm n3=>?_⟩
   have im:aR ts ms:=⟨cF wm (pm.nodup_iff.mpr ci.1),fun x=>pm.mem_iff.trans (ci.2.1 x)⟩
   have hml:=im.len
   have hd3:=n3.same _ _ hd
   refine⟨lk,_,rfl,.inl n3.is,dq (xs:=ms.map V.int) (fun i σ H4 ys=>∃ v,σ=[v,some (.ref d)]∧ak H3 H4∧ys=(bE ts (ms.take i)).map V.int) ⟨none,rfl,ak.refl _,rfl⟩
    (fun i σ H4 ys hi ⟨_,_,s,e⟩=>⟨.inl (s _ _ n3.is),?_⟩) (bx (by rw[length_map];lia)) ?_ ?_⟩
   ·rw[e,length_map]
    exact Nat.le_trans (length_filter_le _ _) (by rw[length_take];lia)
   ·rintro i x σ H4 ys N hN hx ⟨v,rfl,s4,rfl⟩
    obtain⟨m,em,rfl⟩:=cA hx
    have hmf:m∈flat ts:=(im.2 m).mp (mem_of_getElem? em)
    have hval:=ci.find hmf
    refine⟨_,rfl,_,rfl,d,_,rfl,(by rw[←hval];exact cD.k (k:=Sum.inl m) (s4 _ _ hd3)),rfl,_,rfl,?_⟩
    have ed:decide (V.int (qm ((flat ts).count m))=V.int 1)=decide (aI ts m % 2=1):=gT ⟨fun z=>by injection z,fun z=>by show V.int (aI ts m % 2)=_;rw[z]⟩
    have key:bE ts (ms.take (i+1))=bE ts (ms.take i)++if decide (aI ts m % 2=1)=true then [m] else []:=de em
    refine cc (fun c=>?_) (fun c=>?_)
    ·rw[ed] at c
     refine⟨_,rfl,hN _ _ _ ⟨_,rfl,s4,?_⟩⟩
     rw[key,if_pos c,map_append]
     rfl
    ·rw[ed] at c
     refine hN _ _ _ ⟨_,rfl,s4,?_⟩
     rw[key,if_neg c,append_nil]
   ·rintro σ H4 ys ⟨v,rfl,s4,rfl⟩ D H5 n5
    rw[length_map,take_of_length_le (Nat.le_refl _)] at n5
    exact q D ms H5 im (n5.free (s.trans (n3.same.trans s4))) (s.trans (n3.same.trans (s4.trans n5.same))) n5.is
theorem oE:au ["_law_step_here","_law_many"] ["_law_step_here","_law_many"] (defScope fG):=⟨rfl,rfl,rfl,by decide +kernel,rfl,by decide +kernel,by decide +kernel⟩
theorem oN {f:Addr}{fd:FuncData}(F:Fun K "_law_step" "_law_step" fG f fd)(T:Blt mg)(KT:Kit K)(c_l_whole:aF P w K mg base 1 "_law_whole" ["_law_found"] ny):bh P w K mg base CX0 2 f fd ["_law_step_here","_law_many"] nB:=by
 refine F.ok (k:=1) oE (fun vs H Q E h=>?_) (fun cdv A outer s H vs Q E hr h=>?_)
 ·obtain⟨p,st,n,rfl,_⟩:=h
  rfl
 ·obtain⟨p,st,n,rfl,hp,h0,hn,q⟩:=h
  have hu:=aZ hr
  have hu8:=aJ hr
  refine⟨_,(ab (bf (PW.pt (lj (g9 (dB (f8 T.isi T.tuple qR rfl rfl (pv 0)))) (g8 (aH sE (ap bR rfl T.len ba (aa (pv 0) ae)) ad (aN _))))) (af (ar ck)) aM)
   (af (ar (ic (aj c_l_whole (hr.mono (by decide)) rfl (aa (aA aY (pv 0) ad (fun _ _=>rfl)) ae)) (ic (f8 T.isi T.bool oe rfl rfl (aA aY (pv 0) ad (fun _ _=>rfl))) (j5 (qk sF lw ad (aA aY (pv 0) ad (fun _ _=>rfl)) (pv 1)))))))),?_⟩
  refine⟨_,rfl,_,_,.tup hp,KT.tt,_,rfl,?_⟩
  refine⟨_,rfl,p,_,rfl,Sq.tup hp,rfl,_,rfl,?_⟩
  refine⟨_,rfl,p,_,_,_,rfl,rfl,Sq.tup hp,rfl,st.1,rfl,_,rfl,?_⟩
  refine⟨_,rfl,p,_,_,_,rfl,rfl,Sq.tup hp,rfl,_,_,.bl st.2,KT.bb,_,rfl,?_⟩
  refine⟨_,rfl,p,_,_,_,rfl,rfl,Sq.tup hp,rfl,_,_,rfl,rfl,?_⟩
  refine⟨_,rfl,?_⟩
  refine tM h0 ?_
  refine⟨_,rfl,_,_,rfl,rfl,?_⟩
  show Q (.bl (decide (st.1<n))) H
  rw[decide_eq_true hn]
  exact q
theorem aW:au ["_law_tiles_here","_law_row","_law_numbers_here","_law_start","_law_right","_law_step_here","_law_left","_law_behind"] ["_law_tiles_here","_law_row"] (defScope dz):=⟨rfl,rfl,rfl,by decide +kernel,rfl,by decide +kernel,by decide +kernel⟩
theorem lE {f:Addr}{fd:FuncData}(F:Fun K "_law_walked" "_law_walked" dz f fd)(T:Blt mg)(KT:Kit K)(c_l_step:aF P w K mg base 2 "_law_step" ["_law_step_here","_law_many"] nB):bh P w K mg base CX0 3 f fd ["_law_tiles_here","_law_row"] kU:=by
 refine F.ok (k:=2) aW (fun vs H Q E h=>?_) (fun cdv A outer s H vs Q E hr h=>?_)
 ·obtain⟨t,r,ts,row,rfl,_⟩:=h
  rfl
 ·obtain⟨t,r,ts,row,rfl,hT,hR,hlen,hne,hnf,q⟩:=h
  have hu:=aZ hr
  have hu8:=aJ hr
  refine⟨_,(ab (bf (PW.pt (lj (g9 (dB (f8 T.isi T.list gV rfl rfl (pv 1)))) (g8 (aH (lA hu8) (pv 1) (aC ae) (aN _))))) (af (ar f7)) aM)
   (ab (ai (i:=2) aW.nd rfl (Or.inl rfl) (aC ae))
   (ab (ai (i:=3) aW.nd rfl (Or.inl rfl) f7)
   (ab (ai (i:=4) aW.nd rfl (Or.inl rfl) f7)
   (ab (bq PassesOwn.never rfl (aE (pv 1)) (ao (i:=5) aW.nd rfl (Or.inl rfl))
   (ab (bf (g9 (dB (aj c_l_step (hr.mono (by decide)) rfl (aa (pv 5) (aa (ap bR rfl T.len ba (aa (pv 0) ae)) ae))))) (af (ar f7)) aM)
    (ab (qd (aA aY (pv 0) (aA aY (pv 5) ad (fun _ _=>rfl)) (fun _ _=>rfl)) (da (n:=2) rfl (aT (ao (i:=6) aW.nd rfl (Or.inl rfl)) (aT (ao (i:=7) aW.nd rfl (Or.inl rfl)) c0))))
    (dC (bf (dB (aA aY (pv 5) ad (fun _ _=>rfl))) (af (sZ (i:=6) (j:=7) rfl aW.nd rfl rfl (by decide) rfl rfl (aa (pv 7) (aa (pv 6) ae)) rfl)) aM)
    (dC (bf (aH (lA hu8) (pv 2) (aC ae) (aN _)) (af (ai (i:=3) aW.nd rfl (Or.inl rfl) (pv 6))) (af (bf (aH sE (pv 6) (pv 4) (aN _)) (af (ar f7)) aM)))
    (ab (a7 (pv 2) (aA aY (pv 5) ad (fun _ _=>rfl)))
    (af (ai (i:=4) aW.nd rfl (Or.inl rfl) (pv 7)))))))))
   (af (ar (bM (aa (pv 2) (aa (pv 3) (aa (pv 4) ae))))))))))),?_⟩
  obtain⟨vs,v0,g⟩:=hR.tg
  have v2:=g.len
  obtain⟨us,u1,u2⟩:=hT.len
  refine⟨_,rfl,_,_,.lst v0,KT.ll,_,rfl,?_⟩
  refine⟨_,rfl,(by show 0≤sizeLine;decide),fun z0 H0 n0=>?_⟩
  refine⟨r,z0,_,rfl,rfl,.inl (n0.same _ _ v0),.inl n0.is,_,rfl,?_⟩
  have hvs:vs.isEmpty=false:=by
   cases vs with
   | nil=>exact absurd (eq_nil_of_length_eq_zero (by simpa using v2.symm)) hne
   | cons a b=>rfl
  rw[hvs]
  refine⟨(by show 0≤sizeLine;decide),fun lp H1 n1=>?_⟩
  have s1:=n0.same.trans n1.same
  have was:H lp=none:=n0.same.none n1.was
  refine⟨_,rfl,r,_,rfl,.inl (s1 _ _ v0),aX (xs:=vs) (fun i σ H2=>∃ sv rv av lv bv,σ=[some (.ref t),some (.ref r),some (.ref lp),some sv,some rv,av,lv,bv]∧ak H H2∧H2 lp=some (.lst (((row.take i).map (·.1)).map V.int)) ∧
   (0<i→sv=.int (ah ts (row.getD 0 (0,false))).1∧rv=.int (ah ts (row.getD (i-1) (0,false))).2))
   ⟨.non,.non,none,none,none,rfl,s1,n1.is,fun h=>absurd h (Nat.lt_irrefl _)⟩ (fun i σ H2 _ ⟨_,_,_,_,_,_,s,_⟩=>.inl (s _ _ v0)) ?_ ?_⟩
  ·rintro i x σ H2 hx ⟨sv,rv,av,lv,bv,rfl,s,hl,h0⟩
   obtain⟨sp,st,rfl,est,hsp⟩:=g.get hx
   have hi:=am est
   have hin:=qV est (hnf i hi)
   have u12:=s _ _ u1
   have hsp2:=s _ _ hsp
   refine⟨_,rfl,_,rfl,t,_,rfl,Sq.lst u12,sp,st,_,rfl,hsp2,hin.1,(by rw[u2];exact hin.2),_,rfl,?_⟩
   obtain⟨qs,tq,tl,f1,f2,f3,f4,f5⟩:=(hT.same s).atI hin.1 hin.2
   have hface:ah ts st=dN tl st.2:=by
    unfold ah
    rw[getD_eq_getElem?_getD,f4]
    rfl
   refine⟨_,rfl,_,rfl,sp,_,_,_,rfl,rfl,Sq.tup hsp2,rfl,t,_,_,_,rfl,rfl,Sq.lst f1,f3,tq,_,rfl,.inl f5,rfl,_,_,rfl,_,_,rfl,rfl,?_⟩
   refine⟨fun σ H4=>H4=H2∧σ=[some (.ref t),some (.ref r),some (.ref lp),some sv,some rv,some (.ref sp),some (.int (ah ts st).1),some (.int (ah ts st).2)],?_,?_⟩
   ·refine⟨_,rfl,sp,_,_,_,rfl,rfl,Sq.tup hsp2,rfl,_,rfl,?_⟩
    refine cc (fun c=>?_) (fun c=>?_)
    ·refine⟨_,rfl,_,rfl,_,_,rfl,rfl,?_⟩
     rw[hface]
     unfold dN
     rw[if_pos c]
     rfl
    ·refine⟨rfl,?_⟩
     rw[hface]
     unfold dN
     rw[if_neg c]
     rfl
   rintro σ H4 ⟨rfl,rfl⟩
   refine⟨fun σ H5=>ak H4 H5∧σ=[some (.ref t),some (.ref r),some (.ref lp),some (.int (ah ts (row.getD 0 (0,false))).1),some rv,some (.ref sp),some (.int (ah ts st).1),some (.int (ah ts st).2)],?_,?_⟩
   ·refine⟨_,rfl,(by show 0≤sizeLine;decide),fun z5 H5 n5=>?_⟩
    refine⟨lp,z5,_,rfl,rfl,.inl (n5.same _ _ hl),.inl n5.is,_,rfl,?_⟩
    cases i with
    | zero =>
      have e0:row.getD 0 (0,false)=st:=by rw[getD_eq_getElem?_getD,est];rfl
      refine⟨_,rfl,n5.same,?_⟩
      rw[e0]
      rfl
    | succ i =>
      obtain⟨a1,a2⟩:=h0 (Nat.succ_pos _)
      subst a1 a2
      have hm:=hnf.meet est (Nat.succ_pos _)
      have hem:(((row.take (i+1)).map (·.1)).map V.int).isEmpty=false:=by
       cases row with
       | nil=>exact absurd rfl hne
       | cons a b=>rfl
      rw[hem]
      refine⟨_,rfl,_,rfl,rfl,_,rfl,?_⟩
      refine sG (by rw[hm]) ?_
      exact⟨n5.same,rfl⟩
   rintro σ H5 ⟨s5,rfl⟩
   have hl5:=s5 _ _ hl
   refine⟨_,rfl,lp,_,rfl,hl5,_,rfl,sp,_,_,_,rfl,rfl,Sq.tup (s5 _ _ hsp2),rfl,_,hl5,aw (by rw[length_map,length_map,length_take];lia),fun H6 c6=>?_⟩
   refine⟨_,rfl,?_⟩
   refine⟨_,_,_,_,_,rfl,c6.same (s.trans s5) was,?_,fun _=>⟨rfl,?_⟩⟩
   ·rw[c6.is,take_add_one,est]
    simp
   ·rw[Nat.add_sub_cancel,getD_eq_getElem?_getD,est]
    rfl
  ·rintro σ H2 ⟨sv,rv,av,lv,bv,rfl,s,hl,h0⟩
   have hp:0<vs.length:=by
    cases vs with
    | nil=>cases hvs
    | cons a b=>simp
   obtain⟨a1,a2⟩:=h0 hp
   subst a1 a2
   refine⟨_,rfl,_,rfl,_,rfl,(by show 3≤sizeLine;decide),fun p H3 n3=>?_⟩
   rw[v2] at hl n3
   rw[take_length] at hl
   exact q p lp H3 (s.trans n3.same) n3.is (n3.same _ _ hl)
theorem bm:au ["_law_numbers_here","_law_names_here","_law_share","_law_many","_law_parts","_law_rows_here","_law_going","_law_k","_law_turned"] ["_law_numbers_here","_law_names_here","_law_share"] (defScope fH):=⟨rfl,rfl,rfl,by decide +kernel,rfl,by decide +kernel,by decide +kernel⟩
theorem oO {f:Addr}{fd:FuncData}(F:Fun K "_law_rows" "_law_rows" fH f fd)(T:Blt mg):bh P w K mg base CX0 1 f fd ["_law_numbers_here","_law_names_here","_law_share"] pV:=by
 refine F.ok (k:=0) bm (fun vs H Q E h=>?_) (fun cdv A outer s H vs Q E hr h=>?_)
 ·obtain⟨l,n,zs,ns,sh,rfl,_⟩:=h
  rfl
 ·obtain⟨l,n,zs,ns,sh,rfl,hl,hn,hsh,hz,n1,n40,q⟩:=h
  have hu:=aZ hr
  have hu8:=aJ hr
  refine⟨_,(ab (ai (i:=3) bm.nd rfl (Or.inl rfl) (ap bR rfl T.len ba (aa (pv 1) ae)))
   (ab (ai (i:=4) bm.nd rfl (Or.inl rfl) (aC ae))
   (ab (ai (i:=5) bm.nd rfl (Or.inl rfl) ad)
   (ab (ai (i:=6) bm.nd rfl (Or.inl rfl) ck)
   (ab (bq PassesOwn.never rfl (cH rfl T.range (aa (al eA (ap bR rfl T.len ba (aa (pv 0) ae)) ad) ae)) (ao (i:=7) bm.nd rfl (Or.inl rfl))
   (af (bf (aH dM (al a9 (al bN (aA aY (pv 0) (pv 7) (fun _ _=>rfl)) (al dg ad (pv 3))) (pv 2)) ad (aN _)) (af (ai (i:=6) bm.nd rfl (Or.inl rfl) ck)) (ab (ai (i:=5) bm.nd rfl (Or.inl rfl) (al bW (pv 5) (eU pG rfl T.int qS (aa (qg (pv 6)) ae))))
    (ab (ai (i:=6) bm.nd rfl (Or.inl rfl) ck)
    (ab (ai (i:=8) bm.nd rfl (Or.inl rfl) (eT dM (al a9 (al bN (aA aY (pv 0) (pv 7) (fun _ _=>rfl)) (pv 3)) ad) ad (aN _)))
    (af (a7 (pv 4) (bM (aa (aA aY (pv 1) (al a9 (aA aY (pv 0) (pv 7) (fun _ _=>rfl)) (pv 3)) (fun _ _=>rfl)) (aa (aA aY (pv 1) (al a9 (aA aY (pv 0) (al bW (pv 7) ad) (fun _ _=>rfl)) (pv 3)) (fun _ _=>rfl)) (aa (pv 8) ae))))))))))))
   (af (ar (bM (aa (pv 4) (aa (pv 5) ae)))))))))),?_⟩
  have hM:(((ns.map V.int).length:Nat):Int)=ns.length:=by rw[length_map]
  have hL:(((zs.map V.int).length:Nat):Int)=zs.length:=by rw[length_map]
  refine⟨_,rfl,n,_,rfl,Sq.lst hn,?_⟩
  rw[hM]
  refine⟨(by show 0≤sizeLine;decide),fun p H1 m1=>?_⟩
  refine⟨_,rfl,l,_,rfl,Sq.lst (m1.same _ _ hl),_,_,rfl,rfl,_,rfl,(by rw[hL];lia),(by rw[hL];lia),?_⟩
  rw[hL,show ((zs.length:Int)-1).toNat=zs.length-1 by lia]
  refine gf (fun i σ H2=>∃ (r:Nat) (g:Bool) (kv tv:Option V) (ps:List (Int×Int×Bool)),σ=[some (.ref l),some (.ref n),some (.int sh),some (.int (ns.length:Nat)),some (.ref p),some (.int r),some (.bl g),kv,tv]∧ak H H2∧Prt H2 p ps∧ps.length≤i∧eK zs ns i ps r g)
   ⟨0,false,none,none,[],rfl,m1.same,Tl.nil m1.is,Nat.le_refl _,eK.nil _ _⟩ ?_ ?_
  ·rintro i σ H2 hi ⟨r,g,kv,tv,ps,rfl,s,hp,hpl,hI⟩
   have hl2:=s _ _ hl
   have hn2:=s _ _ hn
   have p1:(0:Int)<ns.length:=by lia
   have ei:(0+(i:Int)).toNat=i:=by lia
   have ati:atI (zs.map V.int) (0+(i:Int))=some (.int (zs.getD i 0)):=by
    have:=b5 (zs:=zs) (i:=0+(i:Int)) (by lia) (by lia)
    rwa [ei] at this
   have ati1:atI (zs.map V.int) (0+(i:Int)+1)=some (.int (zs.getD (i+1) 0)):=by
    have:=b5 (zs:=zs) (i:=0+(i:Int)+1) (by lia) (by lia)
    rwa [show (0+(i:Int)+1).toNat=i+1 by lia] at this
   have a0:=Int.emod_nonneg (zs.getD i 0) (show (ns.length:Int)≠0 by lia)
   have a1:=Int.emod_lt_of_pos (zs.getD i 0) p1
   have b0:=Int.emod_nonneg (zs.getD (i+1) 0) (show (ns.length:Int)≠0 by lia)
   have b1:=Int.emod_lt_of_pos (zs.getD (i+1) 0) p1
   refine⟨_,rfl,_,rfl,l,_,_,_,rfl,rfl,Sq.lst hl2,ati,_,rfl,_,_,rfl,rfl,.inl ⟨by decide,by decide⟩,_,_,rfl,rfl,⟨(by lia),(by omega)⟩,_,rfl,_,_,rfl,rfl,hsh,rfl,_,rfl,?_⟩
   refine cc (fun c=>?_) (fun c=>?_)
   ·exact⟨r,false,_,_,ps,rfl,s,hp,by lia,hI.off⟩
   refine⟨_,rfl,_,rfl,_,rfl,.inr ⟨_,rfl,_,_,rfl,rfl,?_⟩⟩
   refine⟨_,rfl,_,rfl,l,_,_,_,rfl,rfl,Sq.lst hl2,ati,_,rfl,_,_,rfl,rfl,⟨p1,by omega⟩,_,_,rfl,rfl,(by show (0:Int)<2;decide),rfl,?_⟩
   obtain⟨vs,v1,v2⟩:=hp.len
   refine⟨_,rfl,p,_,rfl,v1,?_⟩
   refine⟨_,rfl,_,rfl,_,rfl,l,_,_,_,rfl,rfl,Sq.lst hl2,ati,_,rfl,_,_,rfl,rfl,p1,n,_,_,_,rfl,rfl,Sq.lst hn2,b5 a0 a1,?_⟩
   refine⟨_,rfl,_,rfl,_,rfl,_,_,rfl,rfl,l,_,_,_,rfl,rfl,Sq.lst hl2,ati1,_,rfl,_,_,rfl,rfl,p1,n,_,_,_,rfl,rfl,Sq.lst hn2,b5 b0 b1,?_⟩
   refine⟨_,rfl,(by show 3≤sizeLine;decide),fun tp H3 n3=>?_⟩
   have e3:H3 tp=some (.tup (scP (cP zs ns i,cP zs ns (i+1),decide (V.int (zs.getD i 0 / (ns.length:Int) % 2)=V.int 1)))):=n3.is
   obtain⟨ws,w1,w2,w3⟩:=(hp.same n3.same).snoc e3
   have hwv:ws=vs:=by
    have:=n3.same _ _ v1
    rw[w1] at this
    injection this with this
    injection this
   subst hwv
   refine⟨_,w1,jU (by lia),fun H4 c4=>?_⟩
   refine⟨r+(if g=true then 0 else 1),true,some (.int (0+(i:Int))),some (.bl (decide (V.int (zs.getD i 0 / (ns.length:Int) % 2)=V.int 1))),_,?_,c4.same (s.trans n3.same) m1.was,w3 H4 c4,by rw[length_append,length_singleton];lia,hI.on⟩
   cases g <;> rfl
  ·rintro σ H2 ⟨r,g,kv,tv,ps,rfl,s,hp,hpl,hI⟩
   refine⟨_,rfl,_,rfl,(by show 2≤sizeLine;decide),fun tp H3 n3=>?_⟩
   exact q tp p ps r H3 (by lia) ⟨g,hI⟩ (s.trans n3.same) n3.is (hp.same n3.same)
theorem b9:au ["_law_tiles_here","_law_odds_here","_law_found","_law_group"] ["_law_tiles_here"] (defScope cN):=⟨rfl,rfl,rfl,by decide +kernel,rfl,by decide +kernel,by decide +kernel⟩
theorem gk:(["_law_mark","_law_odds_here"]:List Str).Nodup:=by decide +kernel
theorem lD {f:Addr}{fd:FuncData}(F:Fun K "_law_wanted" "_law_wanted" cN f fd)(T:Blt mg)(c_l_odds:aF P w K mg base 1 "_law_odds" ["_law_tiles_here"] sr)(c_l_groups:aF P w K mg base 2 "_law_groups" ["_law_tiles_here"] kX):bh P w K mg base CX0 3 f fd ["_law_tiles_here"] kT:=by
 refine F.ok (k:=2) b9 (fun vs H Q E h=>?_) (fun cdv A outer s H vs Q E hr h=>?_)
 ·obtain⟨l,ts,rfl,_⟩:=h
  rfl
 ·obtain⟨l,ts,rfl,hT,h1000,q⟩:=h
  have hu:=aZ hr
  have hu8:=aJ hr
  refine⟨_,(ab (ai (i:=1) b9.nd rfl (Or.inr rfl) (aj c_l_odds (hr.mono (by decide)) rfl (aa (pv 0) ae)))
   (ab (ai (i:=2) b9.nd rfl (Or.inl rfl) ad)
   (ab (bq PassesOwn.never rfl (aE (aj c_l_groups (hr.mono (by decide)) rfl (aa (pv 0) ae))) (ao (i:=3) b9.nd rfl (Or.inl rfl))
   (af (ai (i:=2) b9.nd rfl (Or.inl rfl) (al bW (pv 2) (ap (pF rfl) rfl T.max tU (aa ad (aa (al bN (ap bR rfl T.len ba (aa (fc rfl (cj (osc:=defScope cN) (N:=["_law_tiles_here","_law_odds_here","_law_found","_law_group"]) (N':=["_law_mark","_law_odds_here"]) (ix:=[none,some 1]) (by decide +kernel)) (aE (pv 3)) (fun _ _ _ _=>(ao (i:=0) gk rfl (Or.inl rfl))) (fun _ _ _ _=>(gO (aH u9 (pv 0) (pv 1) (by with_unfolding_all rfl)))) (fun _ _ _ _=>(pv 0))) ae)) ad) ae)))))))
   (af (ar (pv 2)))))),?_⟩
  refine⟨_,rfl,l,ts,rfl,hT,h1000,fun op ms H1 hms _ s1 ho=>?_⟩
  have hT1:=hT.same s1
  refine⟨_,rfl,l,ts,rfl,hT1,h1000,fun gp gs Ps H2 hPs _ s2 hg=>?_⟩
  have ho2:=s2 _ _ ho
  generalize hod:bE ts ms=odds at ho2
  refine⟨gp,_,rfl,.inl hg.1,aX (xs:=gs.map V.ref) (fun i σ H3=>∃ gv,σ=[some (.ref l),some (.ref op),some (.int (cJ odds (Ps.take i))),gv]∧ak H2 H3)
   ⟨none,rfl,ak.refl _⟩ (fun i σ H3 _ ⟨_,_,s⟩=>.inl (s _ _ hg.1)) ?_ ?_⟩
  ·rintro i x σ H3 hx ⟨gv,rfl,s⟩
   obtain⟨pa,ea,rfl⟩:=ir hx
   have hi:i<Ps.length:=by have:=am ea;rw[←hg.2.1];exact this
   have eP:Ps[i]? = some Ps[i]:=getElem?_eq_getElem hi
   have hPl:=hPs.lenP (getElem_mem hi)
   generalize Ps[i]=P at eP hPl
   have hP3:=s _ _ (hg.2.2 i pa P ea eP)
   refine⟨_,rfl,_,rfl,pa,_,rfl,.inl hP3,dq (xs:=P.map V.int) (fun j σ H4 ys=>∃ v,σ=[v,some (.ref op)]∧ak H3 H4∧ys=((P.take j).filter fun x=>decide (x∈odds)).map V.int) ⟨none,rfl,ak.refl _,rfl⟩
    (fun j σ H4 ys hj ⟨_,_,s4,e⟩=>⟨.inl (s4 _ _ hP3),?_⟩) (bx (by rw[length_map];lia)) ?_ ?_⟩
   ·rw[e,length_map]
    exact Nat.le_trans (length_filter_le _ _) (by rw[length_take];lia)
   ·rintro j y σ H4 ys N hN hy ⟨v,rfl,s4,rfl⟩
    obtain⟨m,em,rfl⟩:=cA hy
    have key:(P.take (j+1)).filter (fun x=>decide (x∈odds))=(P.take j).filter (fun x=>decide (x∈odds))++if decide (m∈odds)=true then [m] else []:=de em
    refine⟨_,rfl,_,rfl,op,m,odds,rfl,rfl,.inl (s4 _ _ (s _ _ ho2)),_,rfl,?_⟩
    by_cases hm:m∈odds
    ·rw[decide_eq_true hm]
     refine⟨_,rfl,hN _ _ _ ⟨_,rfl,s4,?_⟩⟩
     rw[key,if_pos (decide_eq_true hm),map_append]
     rfl
    ·rw[decide_eq_false hm]
     refine hN _ _ _ ⟨_,rfl,s4,?_⟩
     rw[key,if_neg (by simpa using hm),append_nil]
   ·rintro σ H4 ys ⟨v,rfl,s4,rfl⟩ D H5 n5
    rw[length_map,take_of_length_le (Nat.le_refl _)] at n5
    refine⟨D,_,rfl,Sq.lst n5.is,_,_,rfl,rfl,⟨by decide,by decide⟩,_,_,rfl,_,_,rfl,rfl,?_⟩
    refine⟨some (.ref pa),?_,s.trans (s4.trans n5.same)⟩
    have e1:=pJ (List.filter (fun x=>decide (x∈odds)) P).length
    rw[mx eP,length_map]
    dsimp only
    rw[e1]
    rfl
  ·rintro σ H3 ⟨gv,rfl,s⟩
   refine⟨_,rfl,?_⟩
   rw[length_map,hg.2.1,take_length,←hod]
   exact q Ps ms H3 hPs hms (s1.trans (s2.trans s))
theorem bT:au ["_law_script","_law_names_here","_law_aside","_law_numbers_here","_law_parts","_law_rows_here","_law_tiles_here","_law_handed","_law_found","_law_every","_law_row","_law_walked_here"] ["_law_script"] (defScope s_law):=⟨rfl,rfl,rfl,by decide +kernel,rfl,by decide +kernel,by decide +kernel⟩
theorem tu {f:Addr}{fd:FuncData}(F:Fun K "law" "law" s_law f fd)(T:Blt mg)(KT:Kit K)(c_l_names:aF P w K mg base 1 "_law_names" ["_law_cell","_law_far"] nF)(c_l_cell_at:aF P w K mg base 1 "_law_cell_at" ["_law_script","_law_k"] (pY K))(c_l_numbers:aF P w K mg base 1 "_law_numbers" ["_law_cells","_law_more","_law_most"] jm)(c_l_rows:aF P w K mg base 1 "_law_rows" ["_law_numbers_here","_law_names_here","_law_share"] pV)(c_l_tiles:aF P w K mg base 2 "_law_tiles" ["_law_parts","_law_order_here"] nA)(c_l_order:aF P w K mg base 1 "_law_order" ["_law_numbers_here","_law_size","_law_way"] nE)(c_fewest:aF P w K mg base 5 "fewest" ["tiles"] kY)(c_l_walked:aF P w K mg base 3 "_law_walked" ["_law_tiles_here","_law_row"] kU)(c_l_wanted:aF P w K mg base 3 "_law_wanted" ["_law_tiles_here"] kT):bh P w K mg base CX0 9 f fd ["_law_script"] (spLaw K):=by
 refine F.ok (k:=8) bT (fun vs H Q E h=>?_) (fun cdv A outer s H vs Q E hr h=>?_)
 ·obtain⟨a,ns,rfl,_⟩:=h
  rfl
 ·obtain⟨a,ns,rfl,hS,h63,k⟩:=h
  have hu:=aZ hr
  have hu8:=aJ hr
  refine⟨_,(ab (ai (i:=1) bT.nd rfl (Or.inl rfl) (aj c_l_names (hr.mono (by decide)) rfl (aa (aj c_l_cell_at (hr.mono (by decide)) rfl (aa (pv 0) (aa ad ae))) (aa (aj c_l_cell_at (hr.mono (by decide)) rfl (aa (pv 0) (aa ad ae))) ae))))
   (ab (ai (i:=2) bT.nd rfl (Or.inl rfl) (aj c_l_cell_at (hr.mono (by decide)) rfl (aa (pv 0) (aa ad ae))))
   (ab (ai (i:=3) bT.nd rfl (Or.inl rfl) (aj c_l_numbers (hr.mono (by decide)) rfl (aa (hZ nJ (pv 0) (jZ ad) j0) (aa (eT dM (al a9 (al bN (pv 2) ad) ad) ad (aN _)) (aa ad ae)))))
   (ab (qd (aj c_l_rows (hr.mono (by decide)) rfl (aa (pv 3) (aa (pv 1) (aa (aA aY (aC (aa ad (aa ad (aa ad (aa ad ae))))) (al a9 (pv 2) ad) (fun _ _=>rfl)) ae)))) (da (n:=2) rfl (aT (ao (i:=4) bT.nd rfl (Or.inl rfl)) (aT (ao (i:=5) bT.nd rfl (Or.inl rfl)) c0))))
   (ab (ai (i:=6) bT.nd rfl (Or.inl rfl) (aj c_l_tiles (hr.mono (by decide)) rfl (aa (pv 4) (aa (aj c_l_order (hr.mono (by decide)) rfl (aa (pv 3) (aa (ap bR rfl T.len ba (aa (pv 4) ae)) (aa (al bN (pv 2) ad) ae)))) ae))))
   (ab (ai (i:=7) bT.nd rfl (Or.inl rfl) (eU tE rfl T.list gV (aa (pv 6) ae)))
   (ab (ai (i:=8) bT.nd rfl (Or.inl rfl) (aj c_fewest (hr.mono (by decide)) rfl (aa (pv 7) ae)))
   (ab (bf (PW.pt (lj (g9 (dB (f8 T.isi T.list gV rfl rfl (pv 8)))) (g8 (aH (qo hu8) (pv 7) (pv 6) (aN _))))) (af (ar ck)) aM)
   (ab (ai (i:=9) bT.nd rfl (Or.inl rfl) (aC ae))
   (ab (bq PassesOwn.never rfl (aE (pv 8)) (ao (i:=10) bT.nd rfl (Or.inl rfl))
   (ab (ai (i:=11) bT.nd rfl (Or.inl rfl) (aj c_l_walked (hr.mono (by decide)) rfl (aa (pv 6) (aa (pv 10) ae))))
    (ab (bf (dZ (tj (pv 11))) (af (ar ck)) aM)
    (af (ai (i:=9) bT.nd rfl (Or.inl rfl) (al qQ (pv 9) (aA aY (pv 11) ad (fun _ _=>rfl))))))))
   (ab (bf (aH (qo hu8) (ap oA rfl T.sorted bG (aa (pv 9) ae)) (j6 rfl rfl rfl T.list T.range (ap bR rfl T.len ba (aa (pv 6) ae))) (aN _)) (af (ar ck)) aM)
   (af (ar (ic (eT dM (ap bR rfl T.len ba (aa (pv 8) ae)) (aj c_l_wanted (hr.mono (by decide)) rfl (aa (pv 6) ae)) (aN _)) (j5 (eT sF (ap bR rfl T.len ba (aa (pv 8) ae)) (pv 5) (aN _))))))))))))))))),?_⟩
  refine⟨_,rfl,a,ns,0,rfl,hS,by decide,_,rfl,a,ns,1,rfl,hS,by decide,_,_,rfl,fun ln zn H1 z1 z40 _ s1 hn=>?_⟩
  refine⟨_,rfl,a,ns,2,rfl,s1.seq hS,by decide,?_⟩
  generalize ns.getD (Int.toNat 2) 0=av
  refine⟨_,rfl,_,rfl,a,_,rfl,s1.seq hS,fun cp hcp=>?_⟩
  have n2:=New.upd (o:=.lst (iJ (ns.map V.int) (some 3) none)) hcp
  generalize upd H1 cp (.lst (iJ (ns.map V.int) (some 3) none))=H2 at n2 ⊢
  rw[r9 (by decide),ki] at n2
  have s2:=s1.trans n2.same
  refine⟨_,rfl,_,_,rfl,rfl,⟨by decide,by decide⟩,_,_,rfl,rfl,(by show (0:Int)<8;decide),rfl,cp,_,_,_,rfl,n2.is,by decide,(by rw[length_drop];lia),fun lz zz H3 zm z126 z0 _ s3' hz=>?_⟩
  have s3:=s2.trans s3'
  have hn3:=s3' _ _ (n2.same _ _ hn)
  refine⟨_,rfl,_,rfl,(by show 4≤sizeLine;decide),fun la H4 n4=>?_⟩
  obtain⟨sh,hsh,hat⟩:=p5 av
  refine⟨_,rfl,_,_,rfl,rfl,(by show (0:Int)<4;decide),la,_,_,_,rfl,rfl,Sq.lst n4.is,hat,lz,ln,zz,zn,sh,rfl,n4.same _ _ hz,n4.same _ _ hn3,hsh,z126,z1,z40,fun rp lp ps r H5 hpl hI s5 hrp hp=>?_⟩
  have hz5:=s5 _ _ (n4.same _ _ hz)
  refine⟨rp,_,rfl,.inl hrp,rfl,_,_,rfl,_,_,rfl,rfl,?_⟩
  obtain⟨pv0,pv1,pv2⟩:=hp.len
  refine⟨_,rfl,_,rfl,_,rfl,lp,_,rfl,Sq.lst pv1,_,rfl,_,_,rfl,rfl,⟨by decide,by decide⟩,lz,zz,_,_,rfl,hz5,(by lia),(by rw[pv2];assumption),z126,fun lo os H6 po _ s6 ho=>?_⟩
  rw[pv2,Int.toNat_natCast] at po
  have hol:os.length=ps.length:=by rw[po.length_eq];simp
  refine⟨lp,lo,ps,os,rfl,hp.same s6,ho,(fun x hx=>mem_range.mp (po.mem_iff.mp hx)),(by lia),fun lt H7 _ s7 ht=>?_⟩
  have htl:(os.map (fun k=>bu (ps.getD k (0,0,false)))).length=os.length:=length_map _
  have hperm:=m7 po
  generalize os.map (fun k=>bu (ps.getD k (0,0,false)))=ts at ht htl hperm
  obtain⟨tw0,tw1,tw2⟩:=ht.len
  refine⟨_,rfl,lt,_,rfl,Sq.lst tw1,fun lh H8 n8=>?_⟩
  have hh8:Til H8 lh ts:=ht.copy n8.same fun vs e=>by rw[tw1] at e;cases e;exact n8.is
  have ht8:=ht.same n8.same
  refine⟨_,rfl,lh,ts,rfl,hh8,by lia,fun fp rs rows H9 s9 hf hfew=>?_⟩
  have ht9:=ht8.same s9
  have hh9:=hh8.same s9
  obtain⟨f1,f2,f3⟩:=hfew
  refine⟨_,rfl,_,_,.lst hf.1,KT.ll,_,rfl,?_⟩
  refine⟨_,rfl,_,rfl,hh9.eqT ht9 flT (n:=5),_,rfl,?_⟩
  refine⟨(by show 0≤sizeLine;decide),fun le0 H10 n10=>?_⟩
  have hflen:rows.flatten.length=ts.length:=by
   have:=f2.length_eq
   rw[length_map,length_map,length_range] at this
   exact this
  have hrl:(rs.map V.ref).length=rows.length:=by rw[length_map];exact hf.2.1
  refine⟨_,rfl,fp,_,rfl,.inl (n10.same _ _ hf.1),aX (xs:=rs.map V.ref) (fun i σ H'=>∃ (le:Addr) (rv wv:Option V),σ=[some (.ref a),some (.ref ln),some (.int av),some (.ref lz),some (.ref lp),some (.int r),some (.ref lt),some (.ref lh),some (.ref fp),some (.ref le),rv,wv]∧ak H9 H'∧H' le=some (.lst (((rows.take i).flatten.map (·.1)).map V.int)))
   ⟨le0,none,none,rfl,n10.same,n10.is⟩ (fun i σ H' _ ⟨_,_,_,_,s,_⟩=>.inl (s _ _ hf.1)) ?_ ?_⟩
  ·rintro i x σ H' hx ⟨le,rv,wv,rfl,s,hle⟩
   obtain⟨ra,ea,rfl⟩:=ir hx
   have hi:i<rows.length:=by have:=am hx;lia
   have eR:rows[i]? = some rows[i]:=getElem?_eq_getElem hi
   have hmem:rows[i]∈rows:=getElem_mem hi
   generalize rows[i]=row at eR hmem
   have hrow:=(hf.2.2 i ra row ea eR).same s
   have hlt:=i0 rows (i+1)
   rw[iC eR,length_append] at hlt
   refine⟨_,rfl,_,rfl,lt,ra,ts,row,rfl,ht9.same s,hrow,by lia,(f1 row hmem).1,(f1 row hmem).2,fun wp l H11 s11 hwp hl=>?_⟩
   refine⟨_,rfl,_,rfl,?_⟩
   refine⟨_,rfl,_,rfl,wp,_,_,_,rfl,rfl,Sq.tup hwp,rfl,le,l,_,_,rfl,rfl,s11 _ _ hle,hl,bx (by simp only[length_map];lia),fun le2 H12 n12=>?_⟩
   refine⟨le2,_,_,rfl,s.trans (s11.trans n12.same),?_⟩
   rw[n12.is,iC eR,map_append,map_append]
  ·rintro σ H' ⟨le,rv,wv,rfl,s,hle⟩
   rw[hrl,take_length] at hle
   refine⟨_,rfl,le,_,rfl,.inl hle,fun sl ms H11 pm sm n11=>?_⟩
   have e:=mG (pm.trans f2) sm
   have ht11:=(ht9.same s).same n11.same
   obtain⟨xw0,xw1,xw2⟩:=ht11.len
   refine⟨_,rfl,lt,_,rfl,Sq.lst xw1,ts.length,(by rw[xw2]),small (by lia),fun rl H12 n12=>?_⟩
   refine⟨EqR.ints (ns:=ms) (n12.same _ _ n11.is) ?_,_,rfl,?_⟩
   ·rw[n12.is,e,map_map]
    rfl
   have s12:=s.trans (n11.same.trans n12.same)
   have hf12:=hf.same s12
   refine⟨_,rfl,fp,_,rfl,Sq.lst hf12.1,_,rfl,lt,ts,rfl,ht9.same s12,by lia,fun Ps ms' H13 hPs hMs s13=>?_⟩
   obtain⟨g,Rs,i1,i2,i3,_⟩:=hI
   have hb:=g6 hperm i1 i3 hPs hMs
   have hw:=f3 Ps ms' hPs hMs
   refine⟨rfl,_,rfl,?_⟩
   rw[hrl,hw]
   refine tM rfl ?_
   refine⟨_,rfl,fp,_,rfl,Sq.lst (s13 _ _ hf12.1),_,rfl,_,_,rfl,rfl,?_⟩
   rw[hrl]
   show Q (.bl (decide ((rows.length:Int)≤(r:Int)))) H13
   rw[decide_eq_true (by lia)]
   exact k H13
end
theorem all_mk {l:PySem.W.OpenLaw}{w:World}{K:PySem.W.Frag}{h:Heap}{mg:Str→Option Value}{fa:Addr}(X:K.In h)(G:h.Ns mainGlobals mg)(hfa:mg "law" = some (.ref fa))(d1:DI K "counts" fJ)(d2:DI K "neighbours" cu)(d3:DI K "part_with" cV)(d4:DI K "parts_of" dy)(d5:DI K "has_tile" dA)(d6:DI K "faces" gM)(d7:DI K "free_steps" cw)(d8:DI K "by_left_mark" bJ)(d9:DI K "take_step" cU)(d10:DI K "walk_from" cT)(d11:DI K "row_ends" cM)(d12:DI K "joints_between" bd)(d13:DI K "split_at_joints" bn)(d14:DI K "fewest" fI)(d15:DI K "_law_cell_at" cY)(d16:DI K "_law_whole" eQ)(d17:DI K "_law_names" bV)(d18:DI K "_law_numbers" cX)(d19:DI K "_law_tile" fF)(d20:DI K "_law_order" dk)(d21:DI K "_law_tiles" dj)(d22:DI K "_law_marks" cG)(d23:DI K "_law_reached" cW)(d24:DI K "_law_groups" cO)(d25:DI K "_law_odds" dY)(d26:DI K "_law_step" fG)(d27:DI K "_law_walked" dz)(d28:DI K "_law_rows" fH)(d29:DI K "_law_wanted" cN)(d30:DI K "law" s_law)
 (z_len:PySem.W.nsIn K mainGlobals "len" = some none)
 (z_list:PySem.W.nsIn K mainGlobals "list" = some none)
 (z_int:PySem.W.nsIn K mainGlobals "int" = some none)
 (z_bool:PySem.W.nsIn K mainGlobals "bool" = some none)
 (z_tuple:PySem.W.nsIn K mainGlobals "tuple" = some none)
 (z_str:PySem.W.nsIn K mainGlobals "str" = some none)
 (z_sum:PySem.W.nsIn K mainGlobals "sum" = some none)
 (z_sorted:PySem.W.nsIn K mainGlobals "sorted" = some none)
 (z_max:PySem.W.nsIn K mainGlobals "max" = some none)
 (z_isinstance:PySem.W.nsIn K mainGlobals "isinstance" = some none)
 (z_enumerate:PySem.W.nsIn K mainGlobals "enumerate" = some none)
 (z_set:PySem.W.nsIn K mainGlobals "set" = some none)
 (z_range:PySem.W.nsIn K mainGlobals "range" = some none)
 (z_reversed:PySem.W.nsIn K mainGlobals "reversed" = some none)
 (z_zip:PySem.W.nsIn K mainGlobals "zip" = some none)
 (z_ValueError:PySem.W.nsIn K mainGlobals "ValueError" = some none)
 (z_dict:PySem.W.nsIn K mainGlobals "dict" = some none)
 (q_ii:PySem.W.kitOne K (.type "int") (.type "int")=some true)
 (q_ib:PySem.W.kitOne K (.type "int") (.type "bool")=some false)
 (q_bb:PySem.W.kitOne K (.type "bool") (.type "bool")=some true)
 (q_ll:PySem.W.kitOne K (.type "list") (.type "list")=some true)
 (q_tt:PySem.W.kitOne K (.type "tuple") (.type "tuple")=some true)
 (q_ss:PySem.W.kitOne K (.type "str") (.type "str")=some true) :
 ∃ fd:FuncData,(∀ (s:Shared) (v:Value),BindsTo s fd ⟨[v],[]⟩ [("_law_script",v)])∧∀ base:Heap,K.In base→base.Ns mainGlobals mg→bh l.prog w K mg base CX0 9 fa fd ["_law_script"] (spLaw K):=by
 obtain⟨f,od,an,sl,oc,kV,dc,pm,cd,ct,aL,lL,cL,kL⟩:=d30
 have e:=hfa.symm.trans (PySem.W.mg_of X G aL)
 cases e
 have T:Blt mg:=⟨PySem.W.mg_none_of X G z_len,PySem.W.mg_none_of X G z_list,PySem.W.mg_none_of X G z_int,PySem.W.mg_none_of X G z_bool,PySem.W.mg_none_of X G z_tuple,PySem.W.mg_none_of X G z_str,PySem.W.mg_none_of X G z_sum,PySem.W.mg_none_of X G z_sorted,PySem.W.mg_none_of X G z_max,PySem.W.mg_none_of X G z_isinstance,PySem.W.mg_none_of X G z_enumerate,PySem.W.mg_none_of X G z_set,PySem.W.mg_none_of X G z_range,PySem.W.mg_none_of X G z_reversed,PySem.W.mg_none_of X G z_zip,PySem.W.mg_none_of X G z_ValueError,PySem.W.mg_none_of X G z_dict⟩
 have KT:Kit K:=⟨q_ii,q_ib,q_bb,q_ll,q_tt,q_ss⟩
 refine⟨PySem.W.fnOf "law" "law" (defArgs s_law) (defBody s_law) (defScope s_law) .none kV dc pm an cd ct,fun s v=>.of_eq rfl,fun base _ _=>?_⟩
 have c_counts:=d1.callee l.prog w base X G (fun _ _ _ _ _ _ u h=>match u,h with | [_],_=>rfl) fun F=>oR F T
 have c_neighbours:=d2.callee l.prog w base X G (fun _ _ _ _ _ _ u h=>match u,h with | [_],_=>rfl) fun F=>iW F T
 have c_part_with:=d3.callee l.prog w base X G (fun _ _ _ _ _ _ u h=>match u,h with | [_,_],_=>rfl) fun F=>kc F T
 have c_parts_of:=d4.callee l.prog w base X G (fun _ _ _ _ _ _ u h=>match u,h with | [_],_=>rfl) fun F=>lC F T c_neighbours c_part_with
 have c_has_tile:=d5.callee l.prog w base X G (fun _ _ _ _ _ _ u h=>match u,h with | [_,_],_=>rfl) fun F=>lG F T
 have c_faces:=d6.callee l.prog w base X G (fun _ _ _ _ _ _ u h=>match u,h with | [_,_],_=>rfl) fun F=>qr F T c_has_tile
 have c_free_steps:=d7.callee l.prog w base X G (fun _ _ _ _ _ _ u h=>match u,h with | [_],_=>rfl) fun F=>iX F T
 have c_by_left_mark:=d8.callee l.prog w base X G (fun _ _ _ _ _ _ u h=>match u,h with | [_,_],_=>rfl) fun F=>gA F T c_faces
 have c_take_step:=d9.callee l.prog w base X G (fun _ _ _ _ _ _ u h=>match u,h with | [_,_,_],_=>rfl) fun F=>kb F T
 have c_walk_from:=d10.callee l.prog w base X G (fun _ _ _ _ _ _ u h=>match u,h with | [_,_,_],_=>rfl) fun F=>ka F T c_by_left_mark c_take_step c_faces
 have c_row_ends:=d11.callee l.prog w base X G (fun _ _ _ _ _ _ u h=>match u,h with | [_],_=>rfl) fun F=>lB F T c_counts c_parts_of
 have c_joints_between:=d12.callee l.prog w base X G (fun _ _ _ _ _ _ u h=>match u,h with | [_],_=>rfl) fun F=>fL F T
 have c_split_at_joints:=d13.callee l.prog w base X G (fun _ _ _ _ _ _ u h=>match u,h with | [_,_],_=>rfl) fun F=>fq F T
 have c_fewest:=d14.callee l.prog w base X G (fun _ _ _ _ _ _ u h=>match u,h with | [_],_=>rfl) fun F=>oQ F T c_row_ends c_joints_between c_split_at_joints c_walk_from c_free_steps
 have c_l_cell_at:=d15.callee l.prog w base X G (fun _ _ _ _ _ _ u h=>match u,h with | [_,_],_=>rfl) fun F=>kg F T
 have c_l_whole:=d16.callee l.prog w base X G (fun _ _ _ _ _ _ u h=>match u,h with | [_],_=>rfl) fun F=>mP F T KT
 have c_l_names:=d17.callee l.prog w base X G (fun _ _ _ _ _ _ u h=>match u,h with | [_,_],_=>rfl) fun F=>mS F T
 have c_l_numbers:=d18.callee l.prog w base X G (fun _ _ _ _ _ _ u h=>match u,h with | [_,_,_],_=>rfl) fun F=>kf F T
 have c_l_tile:=d19.callee l.prog w base X G (fun _ _ _ _ _ _ u h=>match u,h with | [_],_=>rfl) fun F=>oM F T
 have c_l_order:=d20.callee l.prog w base X G (fun _ _ _ _ _ _ u h=>match u,h with | [_,_,_],_=>rfl) fun F=>mR F T
 have c_l_tiles:=d21.callee l.prog w base X G (fun _ _ _ _ _ _ u h=>match u,h with | [_,_],_=>rfl) fun F=>mQ F T c_l_tile
 have c_l_marks:=d22.callee l.prog w base X G (fun _ _ _ _ _ _ u h=>match u,h with | [_],_=>rfl) fun F=>mT F T
 have c_l_reached:=d23.callee l.prog w base X G (fun _ _ _ _ _ _ u h=>match u,h with | [_,_],_=>rfl) fun F=>kd F T
 have c_l_groups:=d24.callee l.prog w base X G (fun _ _ _ _ _ _ u h=>match u,h with | [_],_=>rfl) fun F=>lF F T c_l_marks c_l_reached
 have c_l_odds:=d25.callee l.prog w base X G (fun _ _ _ _ _ _ u h=>match u,h with | [_],_=>rfl) fun F=>oP F T
 have c_l_step:=d26.callee l.prog w base X G (fun _ _ _ _ _ _ u h=>match u,h with | [_,_],_=>rfl) fun F=>oN F T KT c_l_whole
 have c_l_walked:=d27.callee l.prog w base X G (fun _ _ _ _ _ _ u h=>match u,h with | [_,_],_=>rfl) fun F=>lE F T KT c_l_step
 have c_l_rows:=d28.callee l.prog w base X G (fun _ _ _ _ _ _ u h=>match u,h with | [_,_,_],_=>rfl) fun F=>oO F T
 have c_l_wanted:=d29.callee l.prog w base X G (fun _ _ _ _ _ _ u h=>match u,h with | [_],_=>rfl) fun F=>lD F T c_l_odds c_l_groups
 exact tu (qK (st:=s_law) lL cL kL) T KT c_l_names c_l_cell_at c_l_numbers c_l_rows c_l_tiles c_l_order c_fewest c_l_walked c_l_wanted
end Tk07
open PySem PySem.W PyProof.Rows
set_option maxRecDepth 100000 in
set_option maxHeartbeats 0 in
theorem PySem.Challenge.cw_tilechain_k07_whole_fewest_rows_holds : PySem.Challenge.rw_tilechain_k07_whole_fewest_rows.Holds := by
 refine holds_law Tk07.said fun said=>?_
 refine PySem.W.holds_open (q:=Tk07.q) (loose:=[]) (Xt:=Tk07.Xt) (XP:=XL Tk07.q []) (Yf:=Tk07.hk.obs) (Ya:=Tk07.hk.val) (YP:=Tk07.hk.says) (d:=⟨"law",L2.defArgs Tk07.s_law,L2.defBody Tk07.s_law,L2.defScope Tk07.s_law,L2.defPos Tk07.s_law⟩) (kwd:=[]) (N:=2878) Tk07.left Tk07.hk.of Tk07.hk.keeps (fun s e=>xl_of s (Bool.and_eq_true_iff.mp e).1) XL.keeps (by kernel_rfl) (by kernel_rfl) (by kernel_rfl) (fun s e=>recFacts_of (Bool.and_eq_true_iff.mp e).2) (by kernel_rfl) said Tk07.fits ⟨rfl,rfl,rfl,rfl,rfl,by decide +kernel⟩ ?hw ?hc
 case hw=>w_witness2
 case hc =>
  refine L2.walkE (l:=PySem.Challenge.rw_tilechain_k07_whole_fewest_rows) (k:=9) (sp:=L2.spLaw) (Tl:=L2.Told Tk07.ds Tk07.zs Tk07.qs) rfl rfl ⟨rfl,by decide,by decide⟩ (fun _ _ Y=>Y) ?F fun _ _ a ns hl _ hS=>⟨a,ns,rfl,hS,hl,fun _=>rfl⟩
  case F =>
   intro K Y w mg fa h KX G hmg
   obtain⟨⟨d1,d2,d3,d4,d5,d6,d7,d8,d9,d10,d11,d12,d13,d14,d15,d16,d17,d18,d19,d20,d21,d22,d23,d24,d25,d26,d27,d28,d29,d30,-⟩,⟨z_len,z_list,z_int,z_bool,z_tuple,z_str,z_sum,z_sorted,z_max,z_isinstance,z_enumerate,z_set,z_range,z_reversed,z_zip,z_ValueError,z_dict,-⟩,⟨q_ii,q_ib,q_bb,q_ll,q_tt,q_ss,-⟩⟩:=Y
   exact Tk07.all_mk KX G hmg d1 d2 d3 d4 d5 d6 d7 d8 d9 d10 d11 d12 d13 d14 d15 d16 d17 d18 d19 d20 d21 d22 d23 d24 d25 d26 d27 d28 d29 d30 z_len z_list z_int z_bool z_tuple z_str z_sum z_sorted z_max z_isinstance z_enumerate z_set z_range z_reversed z_zip z_ValueError z_dict q_ii q_ib q_bb q_ll q_tt q_ss
