import PyProof.Rows.All
import Wide.All
import OpenK.AllK
import Lean
import PySem.Challenge.RW_nearkinds_k41_turned_numbers
set_option compiler.extract_closed false
set_option tactic.hygienic false
set_option genSizeOf false
set_option genInjectivity false
noncomputable section
open PySem.W (Frag)
open List (all_append all_cons all_map any_cons any_eq_true drop_length ext_getElem? filter_append filter_nil find?_cons flatMap_cons flatMap_nil forIn_cons forIn_nil getElem_inj getElem_map getElem_range length_drop length_filter_le length_reverse map_nil mem_cons mem_filter mem_map mem_of_mem_drop nodup_range of_mem_zip pairwise_map range'_succ range_eq_range' sum_append sum_cons take_append_drop take_length take_zero)
open Nat (add_comm le_add_right lt_trans mul_comm mul_le_mul ne_of_gt sub_self succ_mul zero_add zero_le)
open Int (ediv_nonneg mul_pos pow_succ zero_mul)
open Bool (false_eq_true not_eq_true')
open Option (getD_none isSome_some)
open Array (length_toList)
open PySem.W (CodeHd callWith_K cellsFrom_some codeHdIn codeHd_of_K codeIn envX fnOf hideAll hideAll_none hideAll_size instObj keepIn kitAny kitOne kitx_bool kitx_dict kitx_float kitx_int kitx_list kitx_none kitx_str kitx_tuple kla_callFunE kla_codeExpr kla_fn kla_obj km_tabs_of lookIn methodObj mg_of nsIn of_hideAll plainGet tabIn tabObj)
open PySem.F (args_tuple_add_2 entry_tuple_add slot_tuple_add)
abbrev aa:=@List.getD_eq_getElem?_getD
abbrev ae:=@List.getElem?_eq_getElem
abbrev af:=@PySem.Heap.get?_push_of_some
abbrev ag:=@List.length_map
abbrev ah:=@List.getElem?_append_left
abbrev ai:=@if_pos
abbrev aj:=@if_neg
abbrev ak:=@Bool.and_eq_true
abbrev ao:=@Nat.le_refl
abbrev aq:=@decide_eq_true_iff
abbrev ar:=@List.getElem?_append_right
abbrev au:=@List.getElem?_set_ne
abbrev av:=@List.getElem?_map
abbrev aw:=@List.getElem?_set_self
abbrev ax:=@decide_eq_true
abbrev ay:=@List.length_append
abbrev az:=@List.getElem?_eq_none
abbrev aA:=@List.mem_cons_of_mem
abbrev aB:=@Int.toNat_natCast
abbrev aC:=@PySem.Heap.get?_push_size
abbrev aD:=@List.size_toArray
abbrev aE:=@Option.some.inj
abbrev aF:=@List.mem_cons_self
abbrev aG:=@decide_eq_false
abbrev aH:=@Bool.false_ne_true
abbrev aI:=@List.length_range
abbrev aJ:=@Nat.lt_of_lt_of_le
abbrev aK:=@beq_iff_eq
abbrev aL:=@List.getElem_mem
abbrev aM:=@PySem.Heap.lt_size
abbrev aN:=@List.map_append
abbrev aO:=@Nat.ne_of_lt
abbrev aP:=@List.mem_append_right
abbrev aQ:=@List.map_cons
abbrev aR:=@List.append_assoc
abbrev aS:=@Nat.lt_irrefl
abbrev aT:=@PySem.W.mg_none_of
abbrev aU:=@List.getElem?_range
abbrev aV:=@List.mem_of_getElem?
abbrev aW:=@List.length_singleton
abbrev aX:=@List.append_nil
abbrev aY:=@List.map_map
abbrev aZ:=@List.all_eq_true
abbrev a3:=@Bool.or_eq_true
abbrev a4:=@Nat.le_trans
abbrev a5:=@Int.eq_ofNat_of_zero_le
abbrev a6:=@List.getElem_of_mem
abbrev a7:=@List.take_of_length_le
abbrev a8:=@List.flatten_cons
abbrev a9:=@List.ext_getElem
abbrev ba:=@List.replicate_succ
abbrev bb:=@List.filterMap_cons
abbrev bc:=@List.length_cons
abbrev bf:=@List.getElem?_replicate
abbrev bg:=@Nat.lt_succ_of_lt
abbrev bh:=@Int.emod_lt_of_pos
abbrev bj:=@List.range_succ
abbrev bo:=@List.map_congr_left
abbrev bp:=@PySem.Heap.size_push
abbrev bq:=@List.length_replicate
abbrev br:=@PySem.Heap.get?_update_other
abbrev bt:=@List.mem_append_left
abbrev bw:=@Int.emod_nonneg
abbrev bx:=@List.length_take
abbrev bz:=@Nat.lt_succ_self
abbrev bA:=@beq_self_eq_true
abbrev bB:=@Int.mul_nonneg
abbrev bC:=@PySem.W.kia_one
abbrev bD:=@List.length_set
abbrev bE:=@List.not_mem_nil
abbrev bF:=@List.lookup_cons
abbrev bG:=@List.countP_cons
abbrev bH:=@PySem.W.hideAll_get
abbrev bI:=@List.reverse_cons
abbrev bJ:=@Nat.le_of_lt
abbrev bK:=@List.nil_append
abbrev bL:=@List.flatMap_append
abbrev bM:=List (List Int)
abbrev bN:=List Int
abbrev bP:=List PySem.Value
abbrev bQ:=List PySem.Addr
abbrev bR:=List (PySem.Addr×PySem.Obj)
abbrev bS:=List Nat
abbrev bU:=List PySem.Str
abbrev bV:=PySem.Value->PySem.Shared->Prop
abbrev bW:=List PySem.Expr
abbrev bX:=PySem.Str->Option PySem.Value
abbrev bY:=List PySem.Env
abbrev bZ:=List (PySem.Str×PySem.Addr)
abbrev b0:=List PySem.Keyword
abbrev b8:=Option PySem.Addr
abbrev b9:=List PySem.Stmt
abbrev cb:=@PySem.wpAny_bind
abbrev cg:=@PySem.wpAny_pure
abbrev cj:=@List.getElem?_eq_some_iff
abbrev cm:=@List.mem_cons
abbrev cu:=@List.all_eq_true
abbrev cf:=@List.mem_range
abbrev cn:=@List.mem_map
abbrev cw:=@List.mem_singleton
abbrev cx:=@List.mem_append
set_option Elab.async false
set_option linter.all false
set_option maxRecDepth 1000000
set_option maxHeartbeats 4000000
variable {XP:(PySem.Str->Option PySem.Value)->PySem.Heap->Prop}{D Pt a b f:PySem.Addr}{oX:Array (Option PySem.Value)}{op:PySem.CmpOp}{env:PySem.Env}{e oN o8 tg:PySem.Expr}{fd:PySem.FuncData}{base h h':PySem.Heap}{o6:List (PySem.Addr×PySem.Obj)}{t:bM}{oR:List (PySem.Str×PySem.Addr)}{fp φ:List PySem.Addr}{gens gs:List PySem.Comprehension}{oU es ifs:List PySem.Expr}{ns:bN}{cap:bS}{body:List PySem.Stmt}{N:List PySem.Str}{oI us:List PySem.Value}{M:PySem.Model}{i kk n t':Nat}{c:Nat->Nat->Bool}{oM oH p o7 oP oK:PySem.Pos}{P:PySem.Program}{sc scope:PySem.Scope}{s':PySem.Shared}{qual x:PySem.Str}{mg:PySem.Str->Option PySem.Value}{α:Type}{u:PySem.Value}{E Q:PySem.Value->PySem.Shared->Prop}{w:PySem.World}
namespace L2
open PySem PySem.Spec PyProof.Rows
abbrev Key:=Sum Int Str
noncomputable def Jy:Key->Value->Bool
 |.inl k,v=>Value.isInt k v|.inr x,v=>Value.isStrOf x v
noncomputable def cy (w:World):Key->Int
 |.inl k=>hashInt k|.inr x=>hashStr w x
theorem ZH:∀{k:Key}{v:Value},Jy k v=true->(∃i t,k=Sum.inl i/\v=Value.int i t)∨(∃x t,k=Sum.inr x/\v=Value.str x t)
 |.inl i,v,h=>by obtain⟨t,e⟩:=Value.isInt_shape (k:=i) (v:=v) h;exact .inl ⟨i,t,rfl,e⟩
 |.inr x,v,h=>by obtain⟨t,e⟩:=Value.isStrOf_shape (x:=x) (v:=v) h;exact .inr ⟨x,t,rfl,e⟩
def Dn (i:Int)(t:Tok):Jy (.inl i) (.int i t)=true:=by simp[Jy,Value.isInt]
def DW (x:Str)(t:Tok):Jy (.inr x) (.str x t)=true:=by simp[Jy,Value.isStrOf]
def cz (a b:Int):decide ((Sum.inl a:Key)=Sum.inl b)=(a==b):=by
 by_cases e:a=b
 ·subst e;simp
 ·have h:¬(Sum.inl a:Key)=Sum.inl b:=λq=>e (Sum.inl.inj q)
  rw[aG h];exact(beq_eq_false_iff_ne.mpr e).symm
def cA (a b:Str):decide ((Sum.inr a:Key)=Sum.inr b)=decide (a=b):=by
 by_cases e:a=b
 ·subst e;simp
 ·have h:¬(Sum.inr a:Key)=Sum.inr b:=λq=>e (Sum.inr.inj q)
  rw[aG h,aG e]
def cB (a:Int)(b:Str):decide ((Sum.inl a:Key)=Sum.inr b)=false:=aG (λq=>nomatch q)
def cC (a:Str)(b:Int):decide ((Sum.inr a:Key)=Sum.inl b)=false:=aG (λq=>nomatch q)
def yZ (p:Program)(w:World):PySem.KeyKind p w Key where
 is:=Jy
 hash:=cy w
 inj:=λv a b f c=>by
  rcases ZH f with ⟨i,t,rfl,rfl⟩|⟨x,t,rfl,rfl⟩
  ·rcases ZH c with ⟨j,u,rfl,e⟩|⟨y,u,rfl,e⟩
   ·injection e with E _;rw[E]
   ·exact nomatch e
  ·rcases ZH c with ⟨j,u,rfl,e⟩|⟨y,u,rfl,e⟩
   ·exact nomatch e
   ·injection e with E _;rw[E]
 byValue:=λk v h=>by rcases ZH h with ⟨i,t,rfl,rfl⟩|⟨x,t,rfl,rfl⟩<;>rfl
 pyHash:=λH h=>by
  rcases ZH H with ⟨i,t,rfl,rfl⟩|⟨x,t,rfl,rfl⟩
  ·exact wpAny_pyHash_int h
  ·exact wpAny_pyHash_str h
 eqBool:=λd H h=>by
  rcases ZH d with ⟨i,t,rfl,rfl⟩|⟨x,t,rfl,rfl⟩
  ·rcases ZH H with ⟨j,u,rfl,rfl⟩|⟨y,u,rfl,rfl⟩
   ·rw[cz]at h;exact wpAny_eqBool_int h
   ·rw[cB]at h;exact SeqAt.EqAt.int_str i t y u _ _ _ _ h
  ·rcases ZH H with ⟨j,u,rfl,rfl⟩|⟨y,u,rfl,rfl⟩
   ·rw[cC]at h;exact SeqAt.EqAt.str_int x t j u _ _ _ _ h
   ·rw[cA]at h;exact wpAny_eqBool_str h
 «strs»:=λk x t v h=>by
  rcases ZH h with ⟨i,u,rfl,e⟩|⟨y,u,rfl,e⟩
  ·exact nomatch e
  ·injection e with E _
   subst E;cases v<;>rfl
def EN (p:Program)(w:World)(k:Key)(v:Value):(yZ p w).is k v=Jy k v:=rfl
def F8 (p:Program)(w:World)(i:Int)(t:Tok):(yZ p w).is (.inl i) (.int i t)=true:=Dn i t
def Er (p:Program)(w:World)(x:Str)(t:Tok):(yZ p w).is (.inr x) (.str x t)=true:=DW x t
inductive V where
 |non|bl (b:Bool)|int (i:Int)|str (x:Str)|byt (b:Array UInt8)|flt (b:UInt64)|ref (a:Addr)|ty (n:String)
 deriving DecidableEq
def RelV:V->Value->Prop
 |.non,u=>u=Value.none|.bl b,u=>u=Value.bool b|.int i,u=>∃t,u=Value.int i t|.str x,u=>∃t,u=Value.str x t|.byt b,u=>∃t,u=Value.bytes b t|.flt b,u=>∃t,u=Value.float b t|.ref a,u=>u=Value.ref a|.ty n,u=>u=Value.type n
abbrev Vals:List V->List Value->Prop:=Paired RelV
theorem Vals.length {x:List V}(r:Vals x us):x.length=us.length:=Paired.length r
theorem Vals.get:∀{X:List V}{U:bP}{i:Nat}{x:V},Vals X U->X[i]? =some x->∃u,U[i]? =some u/\RelV x u
 |_,_,_,_,.nil,e=>by simp at e|_,_,0,_,.cons r _,e=>by simp at e;subst e;exact⟨_,rfl,r⟩|_,_,i+1,x,.cons _ t,e=>by
  obtain⟨u,H,h⟩:=Vals.get (i:=i) (x:=x) t (by simpa using e)
  exact⟨u,by simpa using H,h⟩
theorem Vals.set {x:V}(r:RelV x u):∀{X:List V}{U:bP}(i:Nat),Vals X U->Vals (X.set i x) (U.set i u)
 |_,_,_,.nil=>.nil|_,_,0,.cons _ t=>.cons r t|_,_,i+1,.cons q t=>.cons q (Vals.set r i t)
theorem Vals.append:∀{x y:List V}{u w:bP},Vals x u->Vals y w->Vals (x++y) (u++w)
 |_,_,_,_,.nil,s=>s|_,_,_,_,.cons r t,s=>.cons r (Vals.append t s)
theorem Vals.take:∀{x:List V}{u:bP}(n:Nat),Vals x u->Vals (x.take n) (u.take n)
 |_,_,0,_=>.nil|_,_,_+1,.nil=>.nil|_,_,n+1,.cons r t=>.cons r (Vals.take n t)
theorem Vals.drop:∀{x:List V}{u:bP}(n:Nat),Vals x u->Vals (x.drop n) (u.drop n)
 |_,_,0,r=>r|_,_,_+1,.nil=>.nil|_,_,n+1,.cons _ t=>Vals.drop n t
def Vals.none_of:∀{x:List V}{u:bP}{i:Nat},Vals x u->x[i]? =none->u[i]? =none:=λ {x u i} r e=>by have H:=r.length;have h:x.length<=i:=List.getElem?_eq_none_iff.mp e;exact List.getElem?_eq_none_iff.mpr (by lia)
def Qu:Option V->Option Value->Prop
 |some v,some u=>RelV v u|none,none=>True|_,_=>False
def KV {a:Type}:List (a×V)->List (a×Value)->Prop:=Paired λ(p:a×V) (q:a×Value)=>p.1=q.1/\RelV p.2 q.2
noncomputable def kV:Key->V
 |.inl i=>.int i|.inr x=>.str x
inductive HO where
 |lst (xs:List V)
 |tup (xs:List V)
 |dK (kvs:List (Key×V))|dT (kvs:List (List Key×V))
 |set (S:Int->Bool) (n:Nat)
 |ins (C dx:Addr) (fs:List (Str×V))
 |own (x:Addr)
 |xd (fs:List (Str×V))
 |met (f x:Addr)
 |rng (lo hi:Int)
 |frz (o:Obj) (u:HO)
 |tbl (ps:Array Value)
 |ext (φ:Heap->Prop)
abbrev Hp:=Addr->Option HO
noncomputable def upd (H:Hp)(a:Addr)(o:HO):Hp:=λb=>if b=a then some o else H b
def jR {H:Hp}{o:HO}:upd H a o a=some o:=by unfold upd;rw[ai rfl]
def qo {H:Hp}{o:HO}(h:b≠a):upd H a o b=H b:=by unfold upd;rw[aj h]
def YC {H:Hp}{o u:HO}(h:H a=some o)(c:H b=some u)(d:o≠u):a≠b:=by intro e;subst e;rw[h]at c;exact d (aE c)
def kM {H:Hp}{o:HO}(h:H a=some o)(c:H b=none):a≠b:=by intro e;subst e;rw[h]at c;cases c
def QN (h:Heap)(a:Addr)(i:Array Value):Prop:=∃o,h.get? a=some o/\(o.cls=.type "tuple" /\ o.dict=none)/\∃n,o.data=.seq i n
def QN.tup {h:Heap}{a:Addr}{i:Array Value}(x:QN h a i):IsTup h a i:=let ⟨o,e,c,d⟩:=x;⟨o,e,c.1,d⟩
def QN.new (h:Heap)(i:Array Value):QN (h.push { cls:=.type "tuple",data:=.seq i }) h.objs.size i:=⟨_,aC h rfl,⟨rfl,rfl⟩,0,rfl⟩
section
variable (P:Program)(w:World)
def qX (H:Hp)(h:Heap)(a:Addr):HO->Prop
 |.lst X=>X.length<=sizeLine/\∃(oI:bP) (n:Nat),Vals X oI/\h.get? a=some { cls:=.type "list",data:=.seq oI.toArray n }
 |.tup X=>X.length<=sizeLine/\∃oI:bP,Vals X oI/\QN h a oI.toArray|.dK K=>K.length<=sizeLine/\(a==sysModules)=false/\∃c,KV K c/\h.DictOf (yZ P w) a c|.dT K=>K.length<=sizeLine/\(a==sysModules)=false/\∃X:List (List Key×Addr×Value),
   Paired (λ(p:List Key×V) (q:List Key×Addr×Value)=>p.1=q.1/\H q.2.1=some (.tup (p.1.map kV))/\RelV p.2 q.2.2) K X/\
   ∃o e E,h.get? a=some o/\o.ExactDict/\o.data=.dict e E/\e.toList=X.map (entryOfKey (tupleKind (yZ P w)))/\(X.map (·.1)).Nodup
 |.set S n=>h.SetOf (intKind P w) a S n|.ins C d fs=>H d=some (.own a)/\fs.length<=1000/\d≠a/\h.get? a=some (instObj C d)/\
   ∃M,h.Ns1 d M/\(∀f,Qu (fs.lookup f) (M f))/\PySem.Within M (fs.map (·.1))
 |.own _=>∃o,h.get? a=some o|.xd fs=>∃M,h.Ns1 a M/\∀f,Qu (fs.lookup f) (M f)|.rng l i=>∃t u v,h.get? a=some { cls:=.type "range",data:=.fields #[.int l t,.int i u,.int 1 v] }
 |.frz o u=>h.get? a=some o/\qX H h a u|.tbl ps=>h.get? a=some { cls:=.none,data:=.fields ps }|.met f x=>h.get? a=some (methodObj (.ref f) (.ref x))|.ext b=>b h/\(∃o,h.get? a=some o)/\∀j g:Heap,b j->(∀o,j.get? a=some o->g.get? a=some o)->b g
def jf (H:Hp)(h:Heap):Prop:=∀a o,H a=some o->qX P w H h a o
end
section
variable {H H':Hp}{o:HO}
theorem qX.lt (x:qX P w H h a o):a<h.objs.size:=by
 cases o with|lst X=>obtain⟨_,_,_,_,e⟩:=x;exact aM e|tup X=>obtain⟨_,_,_,p⟩:=x;exact p.tup.lt|dK K=>obtain⟨_,_,_,_,o,_,_,e,_⟩:=x;exact aM e|dT K=>obtain⟨_,_,_,_,o,_,_,e,_⟩:=x;exact aM e|set S n=>obtain⟨o,_,_,_,e,_⟩:=x;exact aM e|ins C d fs=>obtain⟨_,_,_,e,_⟩:=x;exact aM e|own y=>obtain⟨_,e⟩:=x;exact aM e|xd fs=>obtain⟨_,⟨_,_,_,e,_⟩,_⟩:=x;exact aM e|rng l i=>obtain⟨_,_,_,e⟩:=x;exact aM e|frz ob u=>obtain⟨e,_⟩:=x;exact aM e|tbl ps=>exact aM (show h.get? a=some _ from x)|met f y=>exact aM (show h.get? a=some _ from x)|ext b=>obtain⟨_,⟨_,e⟩,_⟩:=x;exact aM e
theorem Paired.mapP {c:Type}{F G:α->c->Prop}:∀{L:List α}{l:List c},Paired F L l->(∀a b,F a b->G a b)->Paired G L l
 |_,_,.nil,_=>.nil|_,_,.cons r t,f=>.cons (f _ _ r) (Paired.mapP t f)
def qX.stay (x:qX P w H h a o)(k:∀b u,(b=a∨H b=some (.own a))->h.get? b=some u->h'.get? b=some u)
  (l:∀b,H b=some (.own a)->H' b=some (.own a))(Q:∀b X,H b=some (.tup X)->H' b=some (.tup X)):qX P w H' h' a o:=by
 induction o with
 |lst X=>obtain⟨z,i,n,r,e⟩:=x;exact⟨z,i,n,r,k _ _ (.inl rfl) e⟩|tup X=>obtain⟨z,i,r,ob,e,c⟩:=x;exact⟨z,i,r,ob,k _ _ (.inl rfl) e,c⟩|dK K=>obtain⟨z,y,L,r,ob,E,g,e,c⟩:=x;exact⟨z,y,L,r,ob,E,g,k _ _ (.inl rfl) e,c⟩|dT K=>
  obtain⟨z,y,X,r,ob,E,g,e,c⟩:=x;exact⟨z,y,X,Paired.mapP r λp q z=>⟨z.1,Q _ _ z.2.1,z.2.2⟩,ob,E,g,k _ _ (.inl rfl) e,c⟩
 |set S n=>obtain⟨ob,E,g,t,e,c⟩:=x;exact⟨ob,E,g,t,k _ _ (.inl rfl) e,c⟩|ins C D fs=>
  obtain⟨d,z,N,e,M,⟨j,E,g,A,c⟩,r⟩:=x;exact⟨l _ d,z,N,k _ _ (.inl rfl) e,M,⟨j,E,g,k _ _ (.inr d) A,c⟩,r⟩
 |own y=>obtain⟨ob,e⟩:=x;exact⟨ob,k _ _ (.inl rfl) e⟩|xd fs=>obtain⟨M,⟨j,E,g,e,c⟩,r⟩:=x;exact⟨M,⟨j,E,g,k _ _ (.inl rfl) e,c⟩,r⟩|rng U B=>obtain⟨t,u,v,e⟩:=x;exact⟨t,u,v,k _ _ (.inl rfl) e⟩|frz ob u I=>obtain⟨e,q⟩:=x;exact⟨k _ _ (.inl rfl) e,I q⟩|tbl ps=>
  have e:h.get? a=some { cls:=.none,data:=.fields ps }:=x;show h'.get? a=some { cls:=.none,data:=.fields ps };exact k a _ (.inl rfl) e
 |met f y=>
  have e:h.get? a=some (methodObj (.ref f) (.ref y)):=x;show h'.get? a=some (methodObj (.ref f) (.ref y));exact k a _ (.inl rfl) e
 |ext T=>obtain⟨p,⟨o,e⟩,J⟩:=x;exact⟨J _ _ p λo q=>k _ _ (.inl rfl) q,⟨o,k _ _ (.inl rfl) e⟩,J⟩
theorem jf.lt (x:jf P w H h)(e:H a=some o):a<h.objs.size:=(x a o e).lt
def jf.fresh (x:jf P w H h)(e:h.objs.size<=a):H a=none:=by
 cases q:H a with|none=>rfl|some u=>exact absurd (aJ (x.lt q) e) (aS _)
def jf.kept (x:jf P w H h)(k:∀b u,h.get? b=some u->h'.get? b=some u):jf P w H h':=λa o e=>
 (x a o e).stay (λb u _ q=>k b u q) (λ_ q=>q) λ_ _ q=>q
def jf.laid (x:jf P w H h)(k:∀b u,h.get? b=some u->h'.get? b=some u)(p:h.objs.size<=a)(new:qX P w (upd H a o) h' a o):jf P w (upd H a o) h':=λb u e=>by
 have n:=x.fresh p
 by_cases d:b=a
 ·subst d;rw[jR]at e;cases e;exact new
 ·rw[qo d]at e
  exact(x b u e).stay (λc v _ q=>k c v q) (λc q=>by rw[qo (kM q n)];exact q) λc X q=>by rw[qo (kM q n)];exact q
end
def Rd (H:Hp)(a:Addr)(u:HO):Prop:=H a=some u∨∃o,H a=some (.frz o u)
def Rd.ok {H:Hp}{u:HO}(r:Rd H a u)(x:jf P w H h):qX P w H h a u:=by
 rcases r with r|⟨o,r⟩
 ·exact x a u r
 ·obtain⟨_,q⟩:=x a _ r
  exact q
def WG:Option HO->Prop
 |some (.lst _)=>True|some (.dK _)=>True|some (.dT _)=>True|some (.set _ _)=>True|some (.ins _ _ _)=>True|some (.ext _)=>True|_=>False
section
variable {H:Hp}{x e:Addr}{o':HO}
def jf.write (ok:jf P w H h)(M:WG (H x))(i:e=x∨H e=some (.own x))(k:∀b u,b≠e->h.get? b=some u->h'.get? b=some u)(o:∃u,h'.get? e=some u)
  (new:qX P w (upd H x o') h' x o'):jf P w (upd H x o') h':=λb u q=>by
 have n:∀c y,H c=some (.own y)->c≠x:=λc y r z=>by subst z;rw[r]at M;exact M
 have N:∀c X,H c=some (.tup X)->c≠x:=λc X r z=>by subst z;rw[r]at M;exact M
 by_cases f:b=x
 ·subst f;rw[jR]at q;cases q;exact new
 ·rw[qo f]at q
  by_cases a:b=e
  ·have Q:H b=some (.own x):=by
    rcases i with z|z
    ·exact absurd (a.trans z) f
    ·rw[a];exact z
   rw[q]at Q;cases Q;obtain⟨v,g⟩:=o;exact⟨v,by rw[a];exact g⟩
  ·refine(ok b u q).stay (λc v d r=>k c v ?_ r) (λc r=>by rw[qo (n c b r)];exact r) λc X r=>by rw[qo (N c X r)];exact r
   rcases d with rfl|d
   ·exact a
   ·rintro rfl
    rcases i with z|z
    ·exact n c b d z
    ·rw[d]at z;cases z;exact f rfl
end
structure Un (fs ex:bQ)(H H':Hp)(h h':Heap):Prop where
 keep:∀b o,h.get? b=some o->H b=none->b∉fs->b∉ex->h'.get? b=some o
 slot:∀b o,h.get? b=some o->H b=none->b∈fs->b∉ex->∃sl,h'.get? b=some { o with slots:=sl }
 free:∀b o,h.get? b=some o->H b=none->b∉ex->H' b=none
 there:∀b o,h.get? b=some o->b∉ex->∃o',h'.get? b=some o'
 tups:∀b xs,H b=some (.tup xs)->H' b=some (.tup xs)
 frzs:∀b o u,H b=some (.frz o u)->H' b=some (.frz o u)
 tbls:∀b ps,H b=some (.tbl ps)->∃more,H' b=some (.tbl (ps++more))
section
variable {fs ex:bQ}{H H1:Hp}{h1:Heap}{x e:Addr}{o:HO}
def Un.any (u:Un fs ex H H1 h h1){ob:Obj}(q:h.get? b=some ob)(n:H b=none)(x:b∉ex):∃S,h1.get? b=some { ob with slots:=S }:=by
 by_cases a:b∈fs
 ·exact u.slot b ob q n a x
 ·exact⟨ob.slots,u.keep b ob q n a x⟩
def Un.kept (k:∀b u,h.get? b=some u->h'.get? b=some u):Un fs ex H H h h':=
 ⟨λb ob q _ _ _=>k b ob q,λb ob q _ _ _=>⟨ob.slots,k b ob q⟩,λ_ _ _ n _=>n,λb ob q _=>⟨ob,k b ob q⟩,λ_ _ q=>q,λ_ _ _ q=>q,λ_ ps q=>⟨#[],by rw[q];simp⟩⟩
def Un.refl:Un fs ex H H h h:=Un.kept λ_ _ q=>q
def Un.laid (k:∀b u,h.get? b=some u->h'.get? b=some u)(p:h.objs.size<=a)(c:H a=none):Un fs ex H (upd H a o) h h' where
 keep:=λb u q _ _ _=>k b u q
 slot:=λb u q _ _ _=>⟨u.slots,k b u q⟩
 free:=λb u q n _=>by rw[qo (aO (aJ (aM q) p))];exact n
 there:=λb u q _=>⟨u,k b u q⟩
 tups:=λb x q=>by rw[qo (kM q c)];exact q
 frzs:=λb u x q=>by rw[qo (kM q c)];exact q
 tbls:=λb ps q=>⟨#[],by rw[qo (kM q c),q];simp⟩
def Un.write (M:WG (H x))(i:e=x∨H e=some (.own x))(k:∀b u,b≠e->h.get? b=some u->h'.get? b=some u)(c:∃u,h'.get? e=some u):Un fs ex H (upd H x o) h h':=by
 have d:∀b,H b=none->b≠x:=λb n z=>by subst z;rw[n]at M;exact M
 have f:∀b,H b=none->b≠e:=λb n z=>by
  subst z;rcases i with r|r
  ·exact d b n r
  ·rw[n]at r;cases r
 have g:∀b u,H b=some u->¬WG (some u)->b≠x:=λb u q nm z=>by subst z;rw[q]at M;exact nm M
 refine⟨λb u q n _ _=>k b u (f b n) q,λb u q n _ _=>⟨u.slots,k b u (f b n) q⟩,λb u q n _=>by rw[qo (d b n)];exact n,λb u q _=>?_,
  λb X q=>by rw[qo (g b _ q λz=>z)];exact q,λb u X q=>by rw[qo (g b _ q λz=>z)];exact q,λb ps q=>⟨#[],by rw[qo (g b _ q λz=>z),q];simp⟩⟩
 by_cases a:b=e
 ·subst a;exact c
 ·exact⟨u,k b u a q⟩
end
noncomputable def Ve (h:Heap)(H:Hp):bQ:=(List.range h.objs.size).filter λa=>(H a).isSome
def ZR (h:Heap)(H:Hp):Heap:=hideAll h (Ve h H)
def Ds (h:Heap)(H:Hp):(ZR h H).objs.size=h.objs.size:=hideAll_size _ _
def Br {H:Hp}{o:Obj}(e:h.get? b=some o)(n:H b=none):(ZR h H).get? b=some o:=
 bH _ e λa=>by have q:(H b).isSome=true:=(List.mem_filter.mp a).2;rw[n]at q;simp at q
def Ao {H:Hp}{o:Obj}(e:(ZR h H).get? b=some o):h.get? b=some o/\H b=none:=by
 have E:h.get? b=some o:=of_hideAll (Ve h H) e;refine⟨E,?_⟩;cases q:H b with
 |none=>rfl|some x=>
  have a:b∈Ve h H:=List.mem_filter.mpr ⟨cf.mpr (aM E),by simp[q]⟩
  have z:(ZR h H).get? b=none:=hideAll_none (Ve h H) a;rw[z]at e;cases e
structure Mod (K:Frag)(mg:bX)(base:Heap):Prop where
 kin:K.In base
 glob:base.Ns mainGlobals mg
 blt:∃mb,base.Ns builtinsNs mb/\∀x:Str,x ≠ "__name__" -> mb x=bootBuiltins x
 nolimit:base.NoLimit
structure Cx where
 prog:Program
 w:World
 K:Frag
 mg:Str->Option Value
 base:Heap
 A:Around
 N:bU
 s0:Shared
 H0:Hp
 env:Env
 outer:bY
 stack:bY
 ex:bQ
 fn:Str->Bool
 calm:Bool
 pn:bR
 xe:Value->Shared->Prop
def qE (l:bY):bQ:=l.filterMap (·.frame)
abbrev Cx.fs (X:Cx):bQ:=qE X.outer
def Y4 (S:Scope)(x:Str):Prop:=S.names.lookup x=some .local∨S.names.lookup x=some .cell∨S.names.lookup x=some .free
def Loc (S:Scope)(x:Str):Prop:=S.names.lookup x=some .local∨S.names.lookup x=some .cell
def Look (e:Env)(h:Heap)(m:bX)(x:Str)(u:Value):Prop:=
 (e.kindOf x=some .local/\m x=some u)∨((e.kindOf x=some .cell∨e.kindOf x=some .free)/\∃c,e.cells.lookup x=some c/\h.IsCell c (some u))
structure Cx.Ok (X:Cx):Prop where
 mod:Mod X.K X.mg X.base
 kind:X.env.scope.kind=.function
 glob:X.env.globals=mainGlobals
 blt:X.env.builtins=builtinsNs
 above:X.s0.heap.objs.size<=X.env.locals
 inj:∀x y c,X.env.cells.lookup x=some c->X.env.cells.lookup y=some c->x=y
 has:∀x,(X.env.kindOf x=some .cell∨X.env.kindOf x=some .free)->∃c,X.env.cells.lookup x=some c
 cab:∀x c,X.fn x=true->X.env.cells.lookup x=some c->X.s0.heap.objs.size<=c
 hd:X.calm=true->X.A.handled=none
 frames:X.A.frames=some X.stack
 stk:X.stack=X.outer∨(X.stack=X.env::X.outer/\X.env.frame=some X.env.locals)
 exf:∀b∈X.ex,b≠X.env.locals/\∀x c,X.env.cells.lookup x=some c->c≠b
 bs:∀b o,X.base.get? b=some o->X.s0.heap.get? b=some o/\X.H0 b=none
 bsz:X.base.objs.size<=X.s0.heap.objs.size
 noex:∀b o,X.base.get? b=some o->b∉X.ex
 exfs:∀b∈X.ex,b∉X.fs
 funs:X.s0.heap.FunFrames X.base X.outer
 frf:∀b∈X.fs,X.H0 b=none
structure Inv (X:Cx)(o6:bR)(σ:List (Option V))(H:Hp)(s:Shared):Prop where
 ok:X.Ok
 os:s.os=X.s0.os
 bare:AllBare s.gens
 base:Un X.fs X.ex X.H0 H X.s0.heap s.heap
 loc:∃m,s.heap.Ns X.env.locals m/\∀(i:Nat)(x:Str)(v:V),X.N[i]? =some x->σ[i]? =some (some v)->Y4 X.env.scope x->∃u,RelV v u/\Look X.env s.heap m x u
 cell:∀x c,X.env.cells.lookup x=some c->∃v,s.heap.IsCell c v
 free:H X.env.locals=none
 freeC:∀x c,X.env.cells.lookup x=some c->H c=none
 pin:∀p∈X.pn++o6,s.heap.get? p.1=some p.2/\H p.1=none/\p.1≠X.env.locals/\p.1∉X.fs/\∀v,p.2.data≠.cell v
 hok:jf X.prog X.w H s.heap
 len:σ.length=X.N.length
section
variable {X:Cx}{σ:List (Option V)}{H H':Hp}{s:Shared}
def Cx.Ok.nofr (ok:X.Ok){o:Obj}(e:X.base.get? b=some o):b∉X.fs:=λh=>by
 have:=(ok.funs.mem h).1
 rw[e]at this;cases this
theorem Inv.bs (I:Inv X o6 σ H s):∀b o,X.base.get? b=some o->s.heap.get? b=some o/\H b=none:=λb o e=>
 ⟨I.base.keep b o (I.ok.bs b o e).1 (I.ok.bs b o e).2 (I.ok.nofr e) (I.ok.noex b o e),I.base.free b o (I.ok.bs b o e).1 (I.ok.bs b o e).2 (I.ok.noex b o e)⟩
def Inv.bk (I:Inv X o6 σ H s):∀b o,X.base.get? b=some o->s.heap.get? b=some o:=λb o e=>(I.bs b o e).1
theorem Inv.mod (I:Inv X o6 σ H s):Mod X.K X.mg X.base:=I.ok.mod
def Inv.kIn (I:Inv X o6 σ H s):X.K.In s.heap:=I.ok.mod.kin.keeps I.bk
theorem Inv.lt (I:Inv X o6 σ H s):X.env.locals<s.heap.objs.size:=let ⟨_,h,_⟩:=I.loc;h.lt
def Inv.sz (I:Inv X o6 σ H s):X.s0.heap.objs.size<=s.heap.objs.size:=a4 I.ok.above (bJ I.lt)
def Inv.nofs (I:Inv X o6 σ H s)(h:s.heap.objs.size<=a):a∉X.fs:=λc=>by obtain⟨_,o,b,_⟩:=I.ok.funs.mem c;exact absurd (aJ (aM b) (a4 I.sz h)) (aS _)
def Inv.cne (I:Inv X o6 σ H s):∀x c,X.env.cells.lookup x=some c->c≠X.env.locals:=λx c e z=>by obtain⟨v,o,b,d⟩:=I.cell x c e;obtain⟨m,⟨f,E,p,h,a,_⟩,_⟩:=I.loc;rw[z,h]at b;cases b;rw[a]at d;cases d
theorem Inv.funs (I:Inv X o6 σ H s):s.heap.FunFrames X.base X.outer:=by
 have all:∀(l:bY),(∀b∈qE l,b∈X.fs)->X.s0.heap.FunFrames X.base l->s.heap.FunFrames X.base l:=by
  intro l
  induction l with
  |nil=>intro _ _;trivial|cons E r i=>
   intro c g;obtain⟨j,⟨L,o,n,p,f,q⟩,d⟩:=g;have a:L∈X.fs:=c L (by unfold qE;rw[bb,n];exact aF)
   obtain⟨S,e⟩:=I.base.slot L o f (I.ok.frf L a) a λz=>I.ok.exfs L z a;exact⟨j,⟨L,_,n,p,e,q⟩,i (λb h=>c b (by unfold qE;rw[bb,n];exact aA _ h)) d⟩
 exact all X.outer (λ_ h=>h) I.ok.funs
theorem Inv.stack (I:Inv X o6 σ H s):s.heap.FunFrames X.base X.stack:=by
 rcases I.ok.stk with e|⟨e,hf⟩
 ·rw[e];exact I.funs
 ·rw[e]
  obtain⟨m,h,_⟩:=I.loc;refine .cons (by rw[I.ok.kind];decide) hf h ?_ I.funs
  exact Heap.get?_none_of_le (a4 I.ok.bsz I.ok.above)
def Inv.stkSub (I:Inv X o6 σ H s):∀b∈qE X.stack,b∈X.env.locals::X.fs:=λb h=>by
 rcases I.ok.stk with e|⟨e,hf⟩
 ·rw[e]at h;exact aA _ h
 ·rw[e]at h
  unfold qE at h;rw[bb,hf]at h;exact h
def Inv.stkFree (I:Inv X o6 σ H s):∀b∈qE X.stack,H b=none:=λb h=>by
 rcases cm.mp (I.stkSub b h) with e|h
 ·rw[e];exact I.free
 ·obtain⟨_,o,a,_⟩:=I.ok.funs.mem h
  exact I.base.free b o a (I.ok.frf b h) λz=>I.ok.exfs b z h
def Inv.step {g':Array GenState}{d':Drawn}{ch:bQ}(I:Inv X o6 σ H s)
  (a:∀b∈ch,(b∈X.ex∨X.s0.heap.objs.size<=b)/\b≠X.env.locals/\(∀x c,X.env.cells.lookup x=some c->c≠b)/\∀p∈X.pn++o6,p.1≠b)
  (keep:∀b o,b≠X.env.locals->b∉X.fs->b∉ch->s.heap.get? b=some o->H b=none->h'.get? b=some o)
  (T:∀b o,b≠X.env.locals->b∈X.fs->b∉ch->s.heap.get? b=some o->H b=none->∃t,h'.get? b=some { o with slots:=t })(M:∀b o,b∉ch->s.heap.get? b=some o->H b=none->H' b=none)
  (there:∀b o,b∉ch->s.heap.get? b=some o->∃o',h'.get? b=some o')
  (U:∀b Q,H b=some (.tup Q)->H' b=some (.tup Q))(frzs:∀b o u,H b=some (.frz o u)->H' b=some (.frz o u))(Y:∀b ps,H b=some (.tbl ps)->∃Z,H' b=some (.tbl (ps++Z)))
  (ns:∀m,s.heap.Ns X.env.locals m->h'.Ns X.env.locals m)(hok:jf X.prog X.w H' h')(J:AllBare g'):
  Inv X o6 σ H' { s with heap:=h',gens:=g',drawn:=d',toks:=t' }:=by
 have L:∀b o,X.s0.heap.get? b=some o->b≠X.env.locals:=λb o e=>aO (aJ (aM e) I.ok.above);have C:∀b o,X.s0.heap.get? b=some o->b∉X.ex->b∉ch:=λb o e h f=>by
  rcases(a b f).1 with z|z
  ·exact h z
  ·exact absurd (aJ (aM e) z) (aS _)
 have P:∀x c,X.env.cells.lookup x=some c->∀v,s.heap.IsCell c v->h'.IsCell c v:=λx c e v ⟨o,g,hd⟩=>by
  have N:c∉ch:=λz=>(a c z).2.2.1 x c e rfl
  by_cases B:c∈X.fs
  ·obtain⟨t,q⟩:=T c o (I.cne x c e) B N g (I.freeC x c e)
   exact⟨_,q,hd⟩
  ·exact⟨o,keep c o (I.cne x c e) B N g (I.freeC x c e),hd⟩
 refine⟨I.ok,I.os,J,⟨λb o e n f h=>?_,λb o e n f h=>?_,λb o e n h=>?_,λb o e h=>?_,λb Q e=>U b Q (I.base.tups b Q e),λb o Q e=>frzs b o Q (I.base.frzs b o Q e),λb ps e=>?_⟩,?_,λx c e=>?_,?_,λx c e=>?_,λp A=>?_,hok,I.len⟩
 ·exact keep b o (L b o e) f (C b o e h) (I.base.keep b o e n f h) (I.base.free b o e n h)
 ·obtain⟨t,E⟩:=I.base.slot b o e n f h
  obtain⟨S,j⟩:=T b _ (L b o e) f (C b o e h) E (I.base.free b o e n h);exact⟨S,j⟩
 ·obtain⟨o',E⟩:=I.base.there b o e h
  exact M b o' (C b o e h) E (I.base.free b o e n h)
 ·obtain⟨o',E⟩:=I.base.there b o e h
  exact there b o' (C b o e h) E
 ·obtain⟨m1,E⟩:=I.base.tbls b ps e
  obtain⟨m2,j⟩:=Y b _ E;exact⟨m1++m2,by rw[j,Array.append_assoc]⟩
 ·obtain⟨m,hn,D⟩:=I.loc
  refine⟨m,ns m hn,λi x v E j K=>?_⟩;obtain⟨u,r,l⟩:=D i x v E j K;refine⟨u,r,?_⟩;rcases l with l|⟨k,c,e,z⟩
  ·exact .inl l
  ·exact .inr ⟨k,c,e,P x c e _ z⟩
 ·obtain⟨v,z⟩:=I.cell x c e
  exact⟨v,P x c e v z⟩
 ·obtain⟨m,⟨o,_,_,g,_⟩,_⟩:=I.loc
  exact M _ o (λz=>(a _ z).2.1 rfl) g I.free
 ·obtain⟨v,o,g,hd⟩:=I.cell x c e
  exact M c o (λz=>(a c z).2.2.1 x c e rfl) g (I.freeC x c e)
 ·obtain⟨e,n,ne,y,d⟩:=I.pin p A
  have N:p.1∉ch:=λz=>(a p.1 z).2.2.2 p A rfl;exact⟨keep p.1 p.2 ne y N e n,M p.1 p.2 N e n,ne,y,d⟩
def Inv.un (I:Inv X o6 σ H s)(u:Un X.fs [] H H' s.heap h')(i:jf X.prog X.w H' h'):Inv X o6 σ H' { s with heap:=h',toks:=t' }:=by
 obtain⟨m,⟨o,g,p,d,r⟩,_⟩:=id I.loc;obtain⟨S,L⟩:=u.any d I.free (by simp)
 exact I.step (g':=s.gens) (d':=s.drawn) (ch:=[]) (λ_ z=>nomatch z) (λb o _ a _ e n=>u.keep b o e n a (by simp)) (λb o _ a _ e n=>u.slot b o e n a (by simp)) (λb o _ e n=>u.free b o e n (by simp)) (λb o _ e=>u.there b o e (by simp)) u.tups u.frzs u.tbls (λM j=>by obtain⟨l,E,c,h,f⟩:=j;rw[d]at h;cases h;exact⟨_,E,c,L,f⟩) i I.bare
def Inv.call {g':Array GenState}{d':Drawn}{ch:bQ}(I:Inv X o6 σ H s)(u:Un (qE X.stack) ch H H' s.heap h')(v:jf X.prog X.w H' h')(j:AllBare g')
  (d:∀b∈ch,(b∈X.ex∨X.s0.heap.objs.size<=b)/\b≠X.env.locals/\(∀x c,X.env.cells.lookup x=some c->c≠b)/\∀p∈X.pn++o6,p.1≠b):
  Inv X o6 σ H' { s with heap:=h',gens:=g',drawn:=d',toks:=t' }:=by
 obtain⟨m,⟨o,q,t,g,r⟩,_⟩:=id I.loc;obtain⟨S,L⟩:=u.any g I.free λz=>(d _ z).2.1 rfl;exact I.step (ch:=ch) d (λb o L l h e n=>u.keep b o e n (λz=>(cm.mp (I.stkSub b z)).elim L l) h) (λb o _ _ h e n=>u.any e n h) (λb o h e n=>u.free b o e n h) (λb o h e=>u.there b o e h) u.tups u.frzs u.tbls (λM y=>by obtain⟨A,E,f,a,i⟩:=y;rw[g]at a;cases a;exact⟨_,E,f,L,i⟩) v j
def Inv.turned {i:Addr}(I:Inv X o6 σ H s)(k:∀b o,b≠i->s.heap.get? b=some o->h'.get? b=some o)(j:H i=none)(L:i≠X.env.locals)
  (w:i∈X.ex∨X.s0.heap.objs.size<=i)(t:∀x c,X.env.cells.lookup x=some c->c≠i)(f:∀p∈X.pn++o6,p.1≠i):Inv X o6 σ H { s with heap:=h',toks:=t' }:=by
 have N:∀b u,H b=some u->b≠i:=λb u e z=>by rw[z,j]at e;cases e
 refine I.step (g':=s.gens) (d':=s.drawn) (ch:=[i]) (λb d=>?_) (λb o _ _ h e _=>k b o (λz=>h (by simp[z])) e) (λb o _ _ h e _=>⟨o.slots,k b o (λz=>h (by simp[z])) e⟩) (λ_ _ _ _ n=>n)
  (λb o h e=>⟨o,k b o (λz=>h (by simp[z])) e⟩) (λ_ _ e=>e) (λ_ _ _ e=>e) (λb ps e=>⟨#[],by rw[e];simp⟩) (λm l=>?_) (λb u e=>?_) I.bare
 ·have e:b=i:=by simpa using d
  subst e;exact⟨w,L,t,f⟩
 ·obtain⟨o,E,g,a,r⟩:=l
  exact⟨o,E,g,k _ o (Ne.symm L) a,r⟩
 ·refine(I.hok b u e).stay (λc v h q=>k c v ?_ q) (λ_ q=>q) λ_ _ q=>q
  rcases h with z|z
  ·rw[z];exact N b u e
  ·exact N c _ z
def Inv.tok (I:Inv X o6 σ H s)(t:Nat):Inv X o6 σ H { s with toks:=t }:=I.un (h':=s.heap) (t':=t) Un.refl I.hok
theorem Inv.kept (I:Inv X o6 σ H s)(k:∀b u,s.heap.get? b=some u->h'.get? b=some u):Inv X o6 σ H { s with heap:=h',toks:=t' }:=I.un (Un.kept k) (I.hok.kept k)
theorem Inv.laid {o:HO}(I:Inv X o6 σ H s)(k:∀b u,s.heap.get? b=some u->h'.get? b=some u)(h:s.heap.objs.size<=a)(new:qX X.prog X.w (upd H a o) h' a o):
  Inv X o6 σ (upd H a o) { s with heap:=h',toks:=t' }:=I.un (Un.laid k h (I.hok.fresh h)) (I.hok.laid k h new)
theorem Inv.write {x e:Addr}{o:HO}(I:Inv X o6 σ H s)(M:WG (H x))(a:e=x∨H e=some (.own x))(k:∀b u,b≠e->s.heap.get? b=some u->h'.get? b=some u)(h:∃u,h'.get? e=some u)
  (new:qX X.prog X.w (upd H x o) h' x o):Inv X o6 σ (upd H x o) { s with heap:=h',toks:=t' }:=I.un (Un.write M a k h) (I.hok.write M a k h new)
def Inv.pins_of {P:bR}(I:Inv X o6 σ H s)(h:∀p∈P,s.heap.get? p.1=some p.2/\H p.1=none/\p.1≠X.env.locals/\p.1∉X.fs/\∀v,p.2.data≠.cell v):Inv X P σ H s:=
 ⟨I.ok,I.os,I.bare,I.base,I.loc,I.cell,I.free,I.freeC,λp a=>(cx.mp a).elim (λz=>I.pin p (bt _ z)) (h p),I.hok,I.len⟩
def Uz (h:N.Nodup){j:Nat}(a:N[i]? =some x)(b:N[j]? =some x):i=j:=by obtain⟨c,E⟩:=cj.mp a;obtain⟨H,e⟩:=cj.mp b;exact(getElem_inj h).mp (E.trans e.symm)
def Oe {A:Around}{v:V}{Q:Unit->Shared->Prop}(I:Inv X o6 σ H s)(hN:X.N.Nodup)(U:X.N[i]? =some x)(t:Loc X.env.scope x)(r:RelV v u)
  (h:∀s',Inv X o6 (σ.set i (some v)) H s'->(∃a,Heap.SameBut a s.heap s'.heap/\(a=X.env.locals∨X.env.cells.lookup x=some a))->Q () s')(hf:X.fn x=true∨X.env.scope.names.lookup x=some .local:=by first|exact .inl rfl|exact .inr rfl|assumption):wpAny M A (storeName X.env x u) Q E s:=by
 obtain⟨m,hn,hl⟩:=id I.loc;have Y:(X.env.scope.kind==.class || (X.env.scope.kind==.module&&X.env.locals != X.env.globals))=false:=by rw[I.ok.kind];rfl
 have J:i < σ.length:=by rw[I.len];exact(cj.mp U).1
 have cne:=I.cne;have tracked:∀{a:Addr}{h':Heap},(∃o,s.heap.get? a=some o/\H a=none)->Heap.SameBut a s.heap h'->jf X.prog X.w H h':=λ {a h'} ha f b ob e=>by
  obtain⟨_,_,B⟩:=ha;refine(I.hok b ob e).stay (λc w' l q=>(f.2 c ?_).trans q) (λ_ q=>q) λ_ _ q=>q
  rintro rfl
  rcases l with rfl|l
  ·rw[B]at e;cases e
  ·rw[B]at l;cases l
 rcases t with D|D
 ·refine wpAny_storeName_local D hn (λh' hn' f=>?_) Y
  obtain⟨oL,_,_,hoL,_⟩:=id hn;refine h _ ⟨I.ok,I.os,I.bare,⟨λb o e n P t=>?_,λb o e n P t=>?_,I.base.free,λb o e t=>?_,I.base.tups,I.base.frzs,I.base.tbls⟩,⟨_,hn',λj y v' g C e3=>?_⟩,λy c e=>?_,I.free,I.freeC,λp hp=>?_,tracked ⟨oL,hoL,I.free⟩ f,by simpa using I.len⟩ ⟨_,f,.inl rfl⟩
  ·exact(f.2 b (aO (aJ (aM e) I.ok.above))).trans (I.base.keep b o e n P t)
  ·obtain⟨sl,g⟩:=I.base.slot b o e n P t
   exact⟨sl,(f.2 b (aO (aJ (aM e) I.ok.above))).trans g⟩
  ·obtain⟨o',g⟩:=I.base.there b o e t
   exact⟨o',(f.2 b (aO (aJ (aM e) I.ok.above))).trans g⟩
  ·by_cases K:j=i
   ·subst K
    rw[U]at g;cases g;rw[aw J]at C;cases C;exact⟨u,r,.inl ⟨D,by simp⟩⟩
   ·rw[au (Ne.symm K)]at C
    obtain⟨u',r',q⟩:=hl j y v' g C e3;refine⟨u',r',?_⟩;rcases q with ⟨k,e⟩|⟨k,c,e,z⟩
    ·refine .inl ⟨k,?_⟩
     have:y≠x:=λe=>K (Uz hN g (e ▸ U))
     simp[this,e]
    ·exact .inr ⟨k,c,e,z.sameBut f (cne y c e)⟩
  ·obtain⟨w',z⟩:=I.cell y c e
   exact⟨w',z.sameBut f (cne y c e)⟩
  ·obtain⟨e,n,ne,nf,d⟩:=I.pin p hp
   exact⟨(f.2 p.1 ne).trans e,n,ne,nf,d⟩
 ·have L:X.fn x=true:=by
   rcases hf with z|z
   ·exact z
   ·rw[z]at D;cases D
  obtain⟨c,l⟩:=I.ok.has x (.inl D);obtain⟨w',z⟩:=I.cell x c l;refine wpAny_storeName_cell I.ok.kind D l z (λh' hc' f=>?_);obtain⟨oc,T,S⟩:=id z;refine h { s with heap:=h' } ⟨I.ok,I.os,I.bare,⟨λb o e n P t=>?_,λb o e n P t=>?_,I.base.free,λb o e t=>?_,I.base.tups,I.base.frzs,I.base.tbls⟩,⟨m,hn.sameBut f (Ne.symm (cne x c l)),λj y v' g C e3=>?_⟩,λy c' e=>?_,I.free,I.freeC,λp hp=>?_,tracked ⟨oc,T,I.freeC x c l⟩ f,by simpa using I.len⟩ ⟨c,f,.inr l⟩
  ·exact(f.2 b (aO (aJ (aM e) (I.ok.cab x c L l)))).trans (I.base.keep b o e n P t)
  ·obtain⟨sl,g⟩:=I.base.slot b o e n P t
   exact⟨sl,(f.2 b (aO (aJ (aM e) (I.ok.cab x c L l)))).trans g⟩
  ·obtain⟨o',g⟩:=I.base.there b o e t
   exact⟨o',(f.2 b (aO (aJ (aM e) (I.ok.cab x c L l)))).trans g⟩
  ·by_cases K:j=i
   ·subst K
    rw[U]at g;cases g;rw[aw J]at C;cases C;exact⟨u,r,.inr ⟨.inl D,c,l,hc'⟩⟩
   ·rw[au (Ne.symm K)]at C
    obtain⟨u',r',q⟩:=hl j y v' g C e3;refine⟨u',r',?_⟩;rcases q with q|⟨k,c',e,z'⟩
    ·exact .inl q
    ·refine .inr ⟨k,c',e,z'.sameBut f ?_⟩
     rintro rfl
     exact K (Uz hN g (I.ok.inj _ _ _ e l ▸ U))
  ·by_cases Z:c'=c
   ·subst Z;exact⟨_,hc'⟩
   ·obtain⟨w2,z2⟩:=I.cell y c' e
    exact⟨w2,z2.sameBut f Z⟩
  ·obtain⟨e,n,ne,nf,d⟩:=I.pin p hp
   refine⟨(f.2 p.1 ?_).trans e,n,ne,nf,d⟩;intro q;rw[q,T]at e;have q':oc=p.2:=aE e;exact d w' (by rw[<- q'];exact S)
def Ji {A:Around}{v:V}{Q:Unit->Shared->Prop}(I:Inv X o6 σ H s)(c:X.N.Nodup)(b:X.N[i]? =some x)(a:Loc X.env.scope x)(r:RelV v u)
  (h:∀s',Inv X o6 (σ.set i (some v)) H s'->Q () s')(f:X.fn x=true∨X.env.scope.names.lookup x=some .local:=by first|exact .inl rfl|exact .inr rfl|assumption):wpAny M A (storeName X.env x u) Q E s:=
 Oe I c b a r (λs' d _=>h s' d) f
def Inv.call' {ch:bQ}(I:Inv X o6 σ H s)(o:s'.os=s.os)(u:Un (qE X.stack) ch H H' s.heap s'.heap)(a:jf X.prog X.w H' s'.heap)(g:AllBare s'.gens)
  (h:∀b∈ch,(b∈X.ex∨X.s0.heap.objs.size<=b)/\b≠X.env.locals/\(∀x c,X.env.cells.lookup x=some c->c≠b)/\∀p∈X.pn++o6,p.1≠b):Inv X o6 σ H' s':=by
 obtain⟨i,f,D,t,d⟩:=s';have e:d=s.os:=o;subst e;exact I.call (g':=f) (t':=t) (d':=D) u a g h
end
abbrev XK:=Value->Option Addr->Hp->Prop
abbrev St:=List (Option V)
abbrev VK:=V->Hp->Prop
abbrev TE:=St->Hp->VK->Prop
abbrev TT:=St->Hp->(Bool->Hp->Prop)->Prop
abbrev TA:=St->Hp->(List V->Hp->Prop)->Prop
structure Ends where
 nx:St->Hp->Prop
 rt:VK
 bk:St->Hp->Prop:=λ_ _=>False
 ct:St->Hp->Prop:=λ_ _=>False
abbrev TS:=Ends->St->Hp->Prop
inductive EP (X:Cx)(o6:bR)(σ:St)(Q:VK)(u:Value)(s':Shared):Prop
 |mk (v:V) (H':Hp) (I:Inv X o6 σ H' s') (r:RelV v u) (q:Q v H')
def TP (X:Cx)(p:bR)(a:St)(Q:Bool->Hp->Prop)(b:Bool)(S:Shared):Prop:=∃H,Inv X p a H S/\Q b H
inductive AP (X:Cx)(o6:bR)(σ:St)(Q:List V->Hp->Prop)(us:bP)(s':Shared):Prop
 |mk (vs:List V) (H':Hp) (I:Inv X o6 σ H' s') (r:Vals vs us) (q:Q vs H')
def SP (X:Cx)(p:bR)(D:Ends)(f:Flow)(S:Shared):Prop:=
 match f with|.next=>∃a H,Inv X p a H S/\D.nx a H|.brk=>∃a H,Inv X p a H S/\D.bk a H|.cont=>∃a H,Inv X p a H S/\D.ct a H|.ret u=>∃v a H,Inv X p a H S/\RelV v u/\D.rt v H
def PE (X:Cx)(e:Expr)(t:TE):Prop:=
 ∀(o6:bR)(s:Shared)(σ:St)(H:Hp)(Q:VK),Inv X o6 σ H s->t σ H Q->wpAny (model X.prog X.w) X.A (eval e X.env) (EP X o6 σ Q) X.xe s
def PT (X:Cx)(e:Expr)(t:TT):Prop:=
 ∀(o6:bR)(s:Shared)(σ:St)(H:Hp)(Q:Bool->Hp->Prop),Inv X o6 σ H s->t σ H Q->wpAny (model X.prog X.w) X.A (isTrue e X.env (eval e X.env)) (TP X o6 σ Q) X.xe s
def PW (X:Cx)(e:Expr)(t:TT):Prop:=
 ∀(whole:Sem Value)(o6:bR)(s:Shared)(σ:St)(H:Hp)(Q:Bool->Hp->Prop),Inv X o6 σ H s->t σ H Q->wpAny (model X.prog X.w) X.A (isTrue e X.env whole) (TP X o6 σ Q) X.xe s
def PW.pt {X:Cx}{t:TT}(h:PW X e t):PT X e t:=h _
def PA (X:Cx)(e:bW)(t:TA):Prop:=
 ∀(o7:Pos)(o6:bR)(s:Shared)(σ:St)(H:Hp)(Q:List V->Hp->Prop),Inv X o6 σ H s->t σ H Q->wpAny (model X.prog X.w) X.A (spliced (backTo o7 (starEach e X.env))) (AP X o6 σ Q) X.xe s
def PS (X:Cx)(S:Stmt)(t:TS):Prop:=
 ∀(o6:bR)(s:Shared)(σ:St)(H:Hp)(D:Ends),Inv X o6 σ H s->t D σ H->wpAny (model X.prog X.w) X.A (exec S X.env) (SP X o6 D) X.xe s
def yJ (X:Cx)(S:b9)(t:TS):Prop:=
 ∀(o6:bR)(s:Shared)(σ:St)(H:Hp)(D:Ends),Inv X o6 σ H s->t D σ H->wpAny (model X.prog X.w) X.A (execs S X.env) (SP X o6 D) X.xe s
def zQ {t:Sem α}{Q q:α->Shared->Prop}{A:Around}{s:Shared}(h:wpAny M A t Q E s)(H:∀a s,Q a s->q a s):wpAny M A t q E s:=wpAny_mono h H λ_ _ x=>x
section
variable {X:Cx}
def cD (i:Nat):TE:=λa H Q=>∃v,a[i]? =some (some v)/\Q v H
def tC (v:V):TE:=λ_ H Q=>Q v H
def NV (n:X.N[i]? =some x)(g:Y4 X.env.scope x)(q:(x==("__debug__":Str))=false:=by decide)(d:(x==("__classdict__":Str))=false:=by decide):PE X (.Name x o7) (cD i):=by
 intro p s t H Q I h;obtain⟨v,e,h⟩:=h;obtain⟨m,w,j⟩:=I.loc;obtain⟨u,r,l⟩:=j i x v n e g;have o:EP X p t Q u s:=⟨v,H,I,r,h⟩;rcases l with ⟨b,y⟩|⟨b,c,f,a⟩
 ·exact wpAny_Name (wpAny_loadName_local I.ok.kind b w y o) q
 ·rcases b with b|b
  ·exact wpAny_Name (wpAny_loadName_cell I.ok.kind b f a o) q
  ·exact wpAny_Name (wpAny_loadName_free I.ok.kind b f a o d) q
def NJ {i j o7}:PE X (.Constant (.int i) j o7) (tC (.int i)):=λ_ _ _ H _ I h=>wpAny_Constant_int ⟨.int i,H,I.tok _,⟨_,rfl⟩,h⟩
def cF {b j o7}:PE X (.Constant (.bool b) j o7) (tC (.bl b)):=λ_ _ _ H _ I h=>Constant_bool ⟨.bl b,H,I,rfl,h⟩
def cG {j o7}:PE X (.Constant .none j o7) (tC .non):=λ_ _ _ H _ I h=>Constant_none ⟨.non,H,I,rfl,h⟩
def cH {x j o7}:PE X (.Constant (.str x) j o7) (tC (.str x)):=λ_ _ _ H _ I h=>Calls.Constant_str ⟨.str x,H,I.tok _,⟨_,rfl⟩,h⟩
def Gl (X:Cx)(x:Str):Prop:=X.env.kindOf x=some .globalImplicit
def Yo {s:Shared}{a:St}{H:Hp}(I:Inv X o6 a H s)(g:Gl X x)(b:X.mg x=some u)(h:Q u s)
  (d:(x==("__debug__":Str))=false:=by decide):wpAny (model X.prog X.w) X.A (eval (.Name x o7) X.env) Q E s:=
 Calls.Name_function_global I.ok.kind g (Calls.loadGlobal_global (by rw[I.ok.glob];exact I.mod.glob.keeps I.bk) b h) d
def Qc {s:Shared}{a:St}{H:Hp}(I:Inv X o6 a H s)(g:Gl X x)(b:X.mg x=none)(v:bootBuiltins x=some u)(h:Q u s)
  (n:x ≠ "__name__":=by decide)(d:(x==("__debug__":Str))=false:=by decide):wpAny (model X.prog X.w) X.A (eval (.Name x o7) X.env) Q E s:=by
 obtain⟨M,e,c⟩:=I.mod.blt;exact Calls.Name_function_global I.ok.kind g (Calls.loadGlobal_builtin (by rw[I.ok.glob];exact I.mod.glob.keeps I.bk) b (by rw[I.ok.blt];exact e.keeps I.bk) ((c x n).trans v) h) d
def AZ {v:V}(g:Gl X x)(a:X.mg x=some u)(r:RelV v u)(d:(x==("__debug__":Str))=false:=by decide):PE X (.Name x o7) (tC v):=
 λ_ _ _ H _ I h=>Yo I g a ⟨v,H,I,r,h⟩ d
def G6 {v:V}(g:Gl X x)(b:X.mg x=none)(a:bootBuiltins x=some u)(r:RelV v u)(n:x ≠ "__name__":=by decide)(d:(x==("__debug__":Str))=false:=by decide):PE X (.Name x o7) (tC v):=
 λ_ _ _ H _ I h=>Qc I g b a ⟨v,H,I,r,h⟩ n d
variable {a b:Expr}{ta tb:TE}
def Bn (b:Expr)(h:op≠.In)(H:op≠.NotIn):behindInMarks op b=false:=by
 have E:(op==CmpOp.In)=false:=by cases op<;>first|rfl|exact absurd rfl h
 have e:(op==CmpOp.NotIn)=false:=by cases op<;>first|rfl|exact absurd rfl H
 cases b<;>simp[behindInMarks,E,e]
def tB (t:TE):TT:=λa H Q=>t a H λx h=>∃c,x=.bl c/\Q c h
def cI {t:TE}(h:PE X e t)(f:∀w,isTrue e X.env w=(do let v <- w;standAt e.pos;holding [v] (truthy v)):=by intro _;rfl):PT X e (tB t):=by intro p s b H Q I c;refine isTrue_plain (zQ (h p s b H _ I c) λv S ⟨x,g,i,r,a⟩=>?_) (f _);obtain⟨d,rfl,q⟩:=a;cases r;exact wpAny_truthy_bool ⟨g,i,q⟩
variable {tA tB':TT}{oQ:bW}
def cJ (t u:TT):TT:=λa H Q=>t a H λc h=>if c=true then u a h Q else Q false h
def cK (t u:TT):TT:=λa H Q=>t a H λc h=>if c=true then Q true h else u a h Q
def cL (t:TT):TT:=λa H Q=>t a H λc h=>Q (!c) h
def pw_and1 (b:PT X a tA):PW X (.BoolOp .And [a] o7) tA:=by
 intro w p s d H Q I h;refine isTrue_and (zQ (b p s d H Q I h) λc S e=>?_);cases c with|true=>exact isTrue_and_nil e|false=>exact e
def pw_or1 (b:PT X a tA):PW X (.BoolOp .Or [a] o7) tA:=by
 intro w p s d H Q I h;refine isTrue_or (zQ (b p s d H Q I h) λc S e=>?_);cases c with|false=>exact isTrue_or_nil e|true=>exact e
def pw_and (e:PT X a tA)(d:PW X (.BoolOp .And (b::oQ) o7) tB'):PW X (.BoolOp .And (a::b::oQ) o7) (cJ tA tB'):=by
 intro w p s f H Q I h;refine isTrue_and (zQ (e p s f H _ I h) λc S ⟨g,i,q⟩=>?_);cases c with|true=>exact d w p S f g Q i q|false=>exact⟨g,i,q⟩
def pw_or (e:PT X a tA)(d:PW X (.BoolOp .Or (b::oQ) o7) tB'):PW X (.BoolOp .Or (a::b::oQ) o7) (cK tA tB'):=by
 intro w p s f H Q I h;refine isTrue_or (zQ (e p s f H _ I h) λc S ⟨g,i,q⟩=>?_);cases c with|true=>exact⟨g,i,q⟩|false=>exact d w p S f g Q i q
def cM (b:PT X a tA):PT X (.UnaryOp .Not a o7) (cL tA):=by intro p s d H Q I h;exact isTrue_not (b p s d H (λc e=>Q (!c) e) I h)
def cN (t tb:TE):TE:=λa H Q=>t a H λx h=>∃c,x=.bl c/\if c=true then tb a h Q else Q (.bl false) h
def cO (t:TE):TE:=λa H Q=>t a H λx h=>∃c,x=.bl c/\Q (.bl (!c)) h
def cP {op}{t:TE}(h:PE X a t):PE X (.BoolOp op [a] o7) t:=λp s b H Q I w=>BoolOp_one (h p s b H Q I w)
def cQ (e:PE X a ta)(d:PE X (.BoolOp .And (b::oQ) o7) tb):PE X (.BoolOp .And (a::b::oQ) o7) (cN ta tb):=by
 intro p s f H Q I h;refine BoolOp_and (zQ (e p s f H _ I h) λv S ⟨x,g,i,r,q⟩=>?_);obtain⟨c,rfl,q⟩:=q;cases r;refine wpAny_truthy_bool ?_;cases c with|true=>exact d p S f g Q i q|false=>exact⟨.bl false,g,i,rfl,q⟩
def cR (b:PE X a ta):PE X (.UnaryOp .Not a o7) (cO ta):=by intro p s d H Q I h;refine UnaryOp_ (zQ (b p s d H _ I h) λv S ⟨x,e,i,r,q⟩=>?_);obtain⟨c,rfl,q⟩:=q;cases r;exact not_of (wpAny_truthy_bool ⟨.bl (!c),e,i,rfl,q⟩)
def cS (t:TT)(T tb:TE):TE:=λa H Q=>t a H λc h=>if c=true then T a h Q else tb a h Q
def Cr {c:Expr}(e:PT X c tA)(g:PE X a ta)(f:PE X b tb):PE X (.IfExp c a b o7) (cS tA ta tb):=by
 intro p s j H Q I h;refine wpAny_IfExp (zQ (e p s j H _ I h) λd S ⟨l,i,q⟩=>?_);cases d with|true=>exact g p S j l Q i q|false=>exact f p S j l Q i q
end
def qS (K:Frag)(H:Hp)(a:Addr)(x:List V):Prop:=
 Rd H a (.lst x)∨
  ∃(o:Obj) (oI:Array Value) (n:Nat),K.lookup a=some o/\o.cls=.type "list" /\ o.dict=none/\o.data=.seq oI n/\oI.size<=sizeLine/\Vals x oI.toList
def qA (K:Frag)(H:Hp)(a:Addr)(x:List V):Prop:=
 Rd H a (.tup x)∨
  ∃(o:Obj) (oI:Array Value) (n:Nat),K.lookup a=some o/\(o.cls=.type "tuple" /\ o.dict=none)/\o.data=.seq oI n/\oI.size<=sizeLine/\Vals x oI.toList
noncomputable def cT:Value->Option V
 |.none=>some .non|.bool b=>some (.bl b)|.int i _=>some (.int i)|.str x _=>some (.str x)|.bytes b _=>some (.byt b)|.float b _=>some (.flt b)|.ref a=>some (.ref a)|.type n=>some (.ty n)|_=>none
def RelV.abs {x:V}(r:RelV x u):cT u=some x:=by
 cases x with|non=>cases r;rfl|bl _=>cases r;rfl|int _=>obtain⟨t,rfl⟩:=r;rfl|str _=>obtain⟨t,rfl⟩:=r;rfl|byt _=>obtain⟨t,rfl⟩:=r;rfl|flt _=>obtain⟨t,rfl⟩:=r;rfl|ref _=>cases r;rfl|ty _=>cases r;rfl
def RelV.inj {x y:V}(r:RelV x u)(q:RelV y u):x=y:=aE (r.abs.symm.trans q.abs)
theorem Vals.inj:∀{x y:List V}{u:bP},Vals x u->Vals y u->x=y
 |_,_,_,.nil,.nil=>rfl|_,_,_,.cons r t,.cons a t'=>by rw[r.inj a,Vals.inj t t']
section
variable {X:Cx}{σ:St}{H:Hp}{s:Shared}{xs ys:List V}
def qS.of {K:Frag}(h:H a=some (.lst xs)):qS K H a xs:=.inl (.inl h)
def qA.of {K:Frag}(h:H a=some (.tup xs)):qA K H a xs:=.inl (.inl h)
def Inv.list (I:Inv X o6 σ H s)(h:qS X.K H a xs):∃i:bP,Vals xs i/\PlainL s.heap a i.toArray/\xs.length<=sizeLine:=by
 rcases h with h|⟨o,i,n,c,d,hd,b,f,r⟩
 ·obtain⟨z,i,n,r,e⟩:=h.ok I.hok
  exact⟨i,r,⟨_,n,e,rfl,rfl,rfl⟩,z⟩
 ·refine⟨i.toList,r,⟨o,n,I.kIn a o c,d,hd,by simpa using b⟩,?_⟩
  have e:=r.length;simp only[length_toList]at e;lia
def Inv.tuple (I:Inv X o6 σ H s)(h:qA X.K H a xs):∃i:bP,Vals xs i/\IsTup s.heap a i.toArray/\xs.length<=sizeLine:=by
 rcases h with h|⟨o,i,n,c,d,b,f,r⟩
 ·obtain⟨z,i,r,p⟩:=h.ok I.hok
  exact⟨i,r,p.tup,z⟩
 ·refine⟨i.toList,r,⟨o,I.kIn a o c,d.1,n,by simpa using b⟩,?_⟩
  have e:=r.length;simp only[length_toList]at e;lia
def Inv.list_inj (I:Inv X o6 σ H s)(h:qS X.K H a xs)(f:qS X.K H a ys):xs=ys:=by
 obtain⟨i,r,⟨o,n,e,_,_,d⟩,_⟩:=I.list h;obtain⟨c,b,⟨g,N,E,_,_,D⟩,_⟩:=I.list f;rw[e]at E;cases E;rw[d]at D;injection D with d1 _
 have:i=c:=by simpa using congrArg Array.toList d1
 subst this;exact r.inj b
def Inv.tupleN (I:Inv X o6 σ H s)(h:qA X.K H a xs):∃ob,s.heap.get? a=some ob/\ob.dict=none:=by
 rcases h with h|⟨o,i,n,b,d,g,f,r⟩
 ·obtain⟨z,i,r,o,e,c,_⟩:=h.ok I.hok
  exact⟨o,e,c.2⟩
 ·exact⟨o,I.kIn a o b,d.2⟩
def Inv.tuple_inj (I:Inv X o6 σ H s)(h:qA X.K H a xs)(f:qA X.K H a ys):xs=ys:=by
 obtain⟨i,r,⟨o,e,_,n,d⟩,_⟩:=I.tuple h;obtain⟨c,b,⟨g,E,_,N,D⟩,_⟩:=I.tuple f;rw[e]at E;cases E;rw[d]at D;injection D with d1 _
 have:i=c:=by simpa using congrArg Array.toList d1
 subst this;exact r.inj b
end
noncomputable abbrev Cx.wish (X:Cx)(E:bV):Cx:={ X with xe:=E }
abbrev Cx.nox (X:Cx):Cx:=X.wish λ_ _=>False
theorem Cx.Ok.wish {X:Cx}(ok:X.Ok)(E:bV):(X.wish E).Ok:=
 ⟨ok.mod,ok.kind,ok.glob,ok.blt,ok.above,ok.inj,ok.has,ok.cab,ok.hd,ok.frames,ok.stk,ok.exf,ok.bs,ok.bsz,ok.noex,ok.exfs,ok.funs,ok.frf⟩
def Cx.Ok.unwish {X:Cx}(ok:(X.wish E).Ok):X.Ok:=
 ⟨ok.mod,ok.kind,ok.glob,ok.blt,ok.above,ok.inj,ok.has,ok.cab,ok.hd,ok.frames,ok.stk,ok.exf,ok.bs,ok.bsz,ok.noex,ok.exfs,ok.funs,ok.frf⟩
section
variable {X:Cx}{σ:St}{H:Hp}{s:Shared}
theorem Inv.wish (I:Inv X o6 σ H s)(E:bV):Inv (X.wish E) o6 σ H s:=⟨I.ok.wish E,I.os,I.bare,I.base,I.loc,I.cell,I.free,I.freeC,I.pin,I.hok,I.len⟩
theorem Inv.unwish (I:Inv (X.wish E) o6 σ H s):Inv X o6 σ H s:=⟨I.ok.unwish,I.os,I.bare,I.base,I.loc,I.cell,I.free,I.freeC,I.pin,I.hok,I.len⟩
theorem SP.unwish {D:Ends}{f:Flow}(h:SP (X.wish E) o6 D f s'):SP X o6 D f s':=by
 cases f with|next=>obtain⟨a,H,I,q⟩:=h;exact⟨a,H,I.unwish,q⟩|brk=>obtain⟨a,H,I,q⟩:=h;exact⟨a,H,I.unwish,q⟩|cont=>obtain⟨a,H,I,q⟩:=h;exact⟨a,H,I.unwish,q⟩|ret u=>obtain⟨v,a,H,I,r,q⟩:=h;exact⟨v,a,H,I.unwish,r,q⟩
theorem PE.nox {t:TE}(h:PE X.nox e t):PE X e t:=λp s b H Q I w=>
 wpAny_mono (h p s b H Q (I.wish _) w) (λ_ _ ⟨v,a,i,r,q⟩=>⟨v,a,i.unwish,r,q⟩) λ_ _ z=>False.elim z
theorem PT.nox {t:TT}(h:PT X.nox e t):PT X e t:=λp s b H Q I w=>
 wpAny_mono (h p s b H Q (I.wish _) w) (λ_ _ ⟨a,i,q⟩=>⟨a,i.unwish,q⟩) λ_ _ z=>False.elim z
theorem yJ.nox {S:b9}{t:TS}(h:yJ X.nox S t):yJ X S t:=λp s a H D I w=>
 wpAny_mono (h p s a H D (I.wish _) w) (λ_ _ q=>q.unwish) λ_ _ z=>False.elim z
end
section
variable {X:Cx}{st:Stmt}{oQ:b9}{t u:TS}{te:TE}
def cU:TS:=λD a H=>D.nx a H
def cV (t u:TS):TS:=λD a H=>t { D with nx:=u D } a H
def B4:yJ X [] cU:=λ_ _ a H _ I h=>wpAny_execs_nil ⟨a,H,I,h⟩
def Ba (e:PS X st t)(d:yJ X oQ u):yJ X (st::oQ) (cV t u):=by
 intro p s c H D I h;refine wpAny_execs_cons (zQ (e p s c H { D with nx:=u D } I h) λf S q=>?_)
 cases f with
 |next=>
  obtain⟨a,b,i,q⟩:=q;exact d p S a b D i q
 |ret v=>exact q|brk=>exact q|cont=>exact q
def Inv.quiet {a:St}{H:Hp}{s:Shared}(I:Inv X o6 a H s):interactive X.env=false:=by simp[interactive,I.ok.kind]
def cW (t:TE):TS:=λD a H=>t a H λ_ h=>D.nx a h
def Ax (c:PE X e te)(a:swapsWith e none o7.line X.env=pure false:=by rfl):PS X (.Expr e o7) (cW te):=by intro p s b H D I h;exact wpAny_Expr_any (zQ (c p s b H _ I h) λv S ⟨x,d,i,r,q⟩=>⟨b,d,i,q⟩) I.quiet a
def cX (t:TE):TS:=λD a H=>t a H D.rt
def cY (b:PE X e te):PS X (.Return (some e) o7) (cX te):=by intro p s a H D I h;exact wpAny_Return_some (zQ (b p s a H _ I h) λv S ⟨x,c,i,r,q⟩=>⟨x,a,c,i,r,q⟩)
def cZ (c:TT)(t u:TS):TS:=λD a H=>c a H λb h=>if b=true then t D a h else u D a h
def c3 {c:Expr}{a b:b9}{T:TT}(e:PT X c T)(g:yJ X a t)(f:yJ X b u):PS X (.If c a b o7) (cZ T t u):=by
 intro p s j H D I h;refine wpAny_If (zQ (e p s j H _ I h) λd S ⟨l,i,q⟩=>?_);cases d with|true=>exact g p S j l D i q|false=>exact f p S j l D i q
end
abbrev TG:=V->St->Hp->(St->Hp->Prop)->Prop
abbrev Qw:=List V->St->Hp->(St->Hp->Prop)->Prop
def PG (X:Cx)(T:Expr)(t:TG):Prop:=
 ∀(o6:bR)(s:Shared)(σ:St)(H:Hp)(v:V)(u:Value)(Q:St->Hp->Prop),Inv X o6 σ H s->RelV v u->t v σ H Q->
  wpAny (model X.prog X.w) X.A (assign T X.env u) (λ_ S=>∃a h,Inv X o6 a h S/\Q a h) X.xe s
def WL (X:Cx)(T:bW)(t:Qw):Prop:=
 ∀(o6:bR)(s:Shared)(σ:St)(H:Hp)(vs:List V)(us:bP)(Q:St->Hp->Prop),Inv X o6 σ H s->Vals vs us->t vs σ H Q->
  wpAny (model X.prog X.w) X.A (assignInOrder ((assignEach T X.env).map (·.2)) us) (λ_ S=>∃a h,Inv X o6 a h S/\Q a h) X.xe s
abbrev JG:=V->V->V->Hp->(Hp->Prop)->Prop
def XO (X:Cx)(t:JG):Prop:=
 ∀(o6:bR)(s:Shared)(σ:St)(H:Hp)(o i v:V)(a I u:Value)(Q:Hp->Prop),Inv X o6 σ H s->RelV o a->RelV i I->RelV v u->t o i v H Q->
  wpAny (model X.prog X.w) X.A (setItem a I u) (λ_ S=>∃h,Inv X o6 σ h S/\Q h) X.xe s
abbrev Y2:=V->V->Hp->VK->Prop
def S6 (X:Cx)(o:Operator)(t:Y2):Prop:=
 ∀(o6:bR)(s:Shared)(σ:St)(H:Hp)(x y:V)(v u:Value)(Q:VK),Inv X o6 σ H s->RelV x v->RelV y u->t x y H Q->
  wpAny (model X.prog X.w) X.A (inplaceOp o v u) (EP X o6 σ Q) X.xe s
section
variable {X:Cx}
def XC (i:Nat):TG:=λv a H Q=>Q (a.set i (some v)) H
def Z6 (c:X.N.Nodup)(b:X.N[i]? =some x)(a:Loc X.env.scope x)(f:X.fn x=true∨X.env.scope.names.lookup x=some .local:=by first|exact .inl rfl|exact .inr rfl|assumption):PG X (.Name x o7) (XC i):=by intro p s e H v u Q I r h;exact wpAny_assign_Name (Ji I c b a r (λS d=>⟨_,H,d,h⟩) f)
def c4:Qw:=λv a H Q=>v=[]/\Q a H
def c6 (t:TG)(u:Qw):Qw:=λc b H Q=>∃v r,c=v::r/\t v b H λa h=>u r a h Q
def GQ:WL X [] c4:=by intro p s a H v u Q I r h;obtain⟨e,h⟩:=h;subst e;cases r;exact assignInOrder_nil ⟨a,H,I,h⟩
def Z2 {t:TG}{u:Qw}(j:PG X e t)(g:WL X es u)
  (c:(assignEach (e::es) X.env).map (·.2)=assign e X.env::(assignEach es X.env).map (·.2):=by rfl):WL X (e::es) (c6 t u):=by
 intro p s f H n U Q I r h;obtain⟨v,d,E,h⟩:=h;subst E;cases r with
 |cons r b=>
  rw[c];refine assignInOrder_cons (zQ (j p s f H _ _ _ I r h) λ_ S ⟨a,l,i,q⟩=>?_);exact g p S a l _ _ Q i b q
def Zp (K:Frag)(n:Nat)(t:Qw):TG:=λv b H Q=>∃a x,v=.ref a/\qA K H a x/\x.length=n/\t x b H Q
def TU {k:Nat}{t:Qw}(f:X.calm=true)(h:WL X es t)
  (B:(assignEach es X.env).length=n:=by rfl)(c:(assignEach es X.env).findIdx? (·.1)=none:=by rfl):PG X (.Tuple es k o7) (Zp X.K n t):=by
 intro p s j H v u Q I r w;obtain⟨a,y,E,q,l,w⟩:=w;subst E;cases r;obtain⟨i,d,A,z⟩:=I.tuple q;refine assign_Tuple_tuple (I.ok.hd f) A (by simp[B,<- l,d.length]) c λC x=>?_
 have g:Inv X p j H { s with heap:=C }:=I.kept (t':=s.toks) λb o e=>x b o (aO (aM e)) e
 exact h p _ j H y _ Q g (by simpa using d) w
def Zw (to T:TE)(t:JG):TG:=λv b H Q=>to b H λo c=>T b c λi a=>t o i v a λh=>Q b h
def c7 {o i:Expr}{to T:TE}{t:JG}(f:PE X o to)(g:PE X i T)(e:XO X t)
  (j:∀v,assign (.Subscript o i o7) X.env v=(do
   let ov <- holding [v] (eval o X.env)
   let iv <- holding [v,ov] (eval i X.env)
   standAt o7
   holding [v,ov,iv] (setItem ov iv v)
   release [v,ov,iv] []):=by intro _;rfl):PG X (.Subscript o i o7) (Zw to T t):=by
 intro P s A H v u Q I r h;rw[j];refine cb (wpAny_holding (zQ (f P s A H _ I h) λov B ⟨x,C,p,b,d⟩=>?_));refine cb (wpAny_holding (zQ (g P B A C _ p d) λiv S ⟨y,z,n,a,c⟩=>?_));refine cb (wpAny_standAt (cb (wpAny_holding (zQ (e P S A z x y v ov iv u _ n b a r c) λ_ D ⟨w,l,q⟩=>?_))));exact wpAny_release ⟨A,w,l,q⟩
def X1 (t:TE)(g:TG):TS:=λD a H=>t a H λx h=>g x a h D.nx
def Td {t:TE}{g:TG}(d:PE X e t)(b:PG X tg g)(a:swapsWithSole [tg] e o7.line X.env=pure false:=by rfl)(w:swappedStores [tg] e X.env=pure none:=by rfl)
  (f:(assignEach [tg] X.env).map (·.2)=[assign tg X.env]:=by rfl):PS X (.Assign [tg] e o7) (X1 t g):=by
 intro p s c H D I h;refine wpAny_Assign_stores (zQ (d p s c H _ I h) λv S ⟨x,j,i,r,Q⟩=>?_) a w;rw[f];exact zQ (b p S c j x v _ i r Q) λ_ l q=>q
def c8 {t:TE}(d:X.N.Nodup)(c:X.N[i]? =some x)(a:Loc X.env.scope x)(n:PE X e t)(b:swapsWith e (some (.Name x oP)) o7.line X.env=pure false:=by rfl)(l:X.fn x=true∨X.env.scope.names.lookup x=some .local:=by first|exact .inl rfl|exact .inr rfl|assumption):
  PS X (.Assign [.Name x oP] e o7) (X1 t (XC i)):=by
 intro p s j H D I h;refine wpAny_Assign_Name (zQ (n p s j H _ I h) λv u ⟨y,o,g,r,q⟩=>?_) b;exact Ji g d c a r (λS f=>⟨_,o,f,q⟩) l
def c9 (i j:Nat)(t:TA):TS:=λD a H=>t a H λb h=>∃v w,b=[v,w]/\D.nx ((a.set i (some v)).set j (some w)) h
def da {j:Nat}{y:Str}{a b:Expr}{t:TA}{P py pt:Pos}{kt k2 pt2}(M:X.calm=true)(l:X.N.Nodup)(L:X.N[i]? =some x)(K:X.N[j]? =some y)(d:i≠j)
  (g:X.env.scope.names.lookup x=some .local)(f:X.env.scope.names.lookup y=some .local)(S:PA X [a,b] t)
  (hw:swappedStores [.Tuple [.Name x P,.Name y py] kt pt] (.Tuple [a,b] k2 pt2) X.env=pure (some [x,y]))
  (J:swapsWithSole [.Tuple [.Name x P,.Name y py] kt pt] (.Tuple [a,b] k2 pt2) o7.line X.env=pure false:=by rfl):
  PS X (.Assign [.Tuple [.Name x P,.Name y py] kt pt] (.Tuple [a,b] k2 pt2) o7) (c9 i j t):=by
 intro o6 s σ H D I h;rw[exec_Assign_arm];refine cb (wpAny_standAt ?_);rw[J];refine cb (cg ?_);rw[aj (by decide)]
 refine cb (Tuple_ (zQ (S _ o6 s σ H _ I h) λus s1 ⟨vs,H1,I1,B,Q⟩=>?_));obtain⟨v,w,T,Q⟩:=Q;subst T;obtain⟨U,u,rfl,z,r⟩:∃U u,us=[U,u]/\RelV v U/\RelV w u:=by
  cases B with
  |cons p q=>
   cases q with
   |cons E C=>
    cases C;exact⟨_,_,rfl,p,E⟩
 refine wpAny_newObj_type ?_ (by show 2<=sizeLine;decide)
 have I2:Inv X o6 σ H1 { s1 with heap:=s1.heap.push { cls:=.type "tuple",data:=.seq [U,u].toArray } }:=I1.kept (t':=s1.toks) λb o e=>af _ e
 rw[hw];refine cb (cg ?_);show wpAny (model X.prog X.w) X.A (do rule "assign.swapped-stores";let items <- unpackItems (.ref s1.heap.objs.size) 2 none;assignInOrder [λv=>bindName X.env y v,λv=>bindName X.env x v] items.reverse;pure Flow.next) _ _ _
 refine cb (wpAny_rule (cb (unpackItems_tuple (items:=#[U,u]) (I.ok.hd M) (IsTup.new s1.heap _) λh' c=>?_)));have Z:=I2.kept (h':=h') (t':=s1.toks) λb o e=>c b o (aO (aM e)) e;show wpAny _ _ (assignInOrder [λv=>bindName X.env y v,λv=>bindName X.env x v] [u,U] >>= λ_=>pure Flow.next) _ _ _;refine cb (assignInOrder_cons (wpAny_bindName (Ji Z l K (.inl f) r (λs2 Y=>?_) (.inr f))));refine assignInOrder_cons (wpAny_bindName (Ji Y l L (.inl g) z (λs3 n=>assignInOrder_nil (cg ?_)) (.inr g)));rw[List.set_comm _ _ (Ne.symm d)]at n;exact⟨_,H1,n,Q⟩
def dc (i:Nat)(t:TE)(T:Y2):TS:=λD a H=>∃x,a[i]? =some (some x)/\t a H λy b=>T x y b λz h=>D.nx (a.set i (some z)) h
def de {t:TE}{U:Operator}{ti:Y2}(E:X.N.Nodup)(j:X.N[i]? =some x)(g:Loc X.env.scope x)(he:PE X e t)(p:S6 X U ti)(hf:X.fn x=true∨X.env.scope.names.lookup x=some .local:=by first|exact .inl rfl|exact .inr rfl|assumption):
  PS X (.AugAssign (.Name x oP) U e o7) (dc i t ti):=by
 intro T s Y H D I h;obtain⟨v,J,h⟩:=h;obtain⟨m,hn,B⟩:=I.loc;have f:Y4 X.env.scope x:=by rcases g with k|k;exact .inl k;exact .inr (.inl k)
 obtain⟨u,r,l⟩:=B i x v j J f;refine wpAny_AugAssign_Name ?_;have go:wpAny (model X.prog X.w) X.A (eval e X.env) (λw d=>wpAny (model X.prog X.w) X.A (inplaceOp U u w) (λr S=>wpAny (model X.prog X.w) X.A (storeName X.env x r) (λ_=>SP X T D .next) X.xe S) X.xe d) X.xe s:=by refine zQ (he T s Y H _ I h) λw s1 ⟨y,H1,M,o,Q⟩=>?_;refine zQ (p T s1 Y H1 v y u w _ M r o Q) λz s2 ⟨Z,P,L,n,q⟩=>?_;exact Ji L E j g n (λs3 K=>⟨_,P,K,q⟩) hf
 rcases l with ⟨a,hm⟩|⟨a,c,C,b⟩
 ·exact wpAny_loadName_local I.ok.kind a hn hm go
 ·rcases a with a|a
  ·exact wpAny_loadName_cell I.ok.kind a C b go
  ·rcases g with k|k
   ·have:X.env.scope.names.lookup x=some .free:=a
    rw[k]at this;cases this
   ·have:X.env.scope.names.lookup x=some .free:=a
    rw[k]at this;cases this
def df (to g e:TE)(T:V->V->Hp->VK->Prop)(p:Y2)(t:JG):TS:=λD f H=>to f H λo j=>g f j λi d=>T o i d λx c=>e f c λy b=>p x y b λz a=>t o i z a λh=>D.nx f h
def LG (X:Cx)(t:V->V->Hp->VK->Prop):Prop:=
 ∀(o6:bR)(s:Shared)(σ:St)(H:Hp)(o i:V)(v I:Value)(Q:VK),Inv X o6 σ H s->RelV o v->RelV i I->t o i H Q->
  wpAny (model X.prog X.w) X.A (getItem v I) (EP X o6 σ Q) X.xe s
def B7 {o i:Expr}{to ti c:TE}{T:V->V->Hp->VK->Prop}{p:Y2}{t:JG}{op:Operator}(z:PE X o to)(A:PE X i ti)(B:LG X T)(he:PE X e c)(y:S6 X op p)(x:XO X t)
  (C:∀a b new,augStore i a b new=(do holding [new,a,b] (setItem a b new);release [new,a,b] [];pure .next):=by intros;rfl):PS X (.AugAssign (.Subscript o i oK) op e o7) (df to ti c T p t):=by
 intro o6 s σ H D I h;refine wpAny_AugAssign_SubscriptAny (zQ (z o6 s σ H _ I h) λa s1 ⟨x1,H1,N,d,w⟩=>?_) C;refine zQ (A o6 s1 σ H1 _ N w) λb s2 ⟨x2,Z,M,r,u⟩=>?_;refine zQ (B o6 s2 σ Z x1 x2 a b _ M d r u) λold s3 ⟨x3,Y,L,j,n⟩=>?_;refine zQ (he o6 s3 σ Y _ L n) λv s4 ⟨x4,U,K,g,l⟩=>?_;refine zQ (y o6 s4 σ U x3 x4 old v _ K j g l) λnew s5 ⟨x5,S,J,f,Q⟩=>?_;exact zQ (x o6 s5 σ S x1 x2 x5 a b new _ J d r f Q) λ_ s6 ⟨P,E,q⟩=>⟨σ,P,E,q⟩
def dh (f:Int->Int->Int):Y2:=λx y H Q=>∃i j,x=.int i/\y=.int j/\Q (.int (f i j)) H
def N5:S6 X .Add (dh λi j=>i+j):=by intro p s b H x y v u Q I a r h;obtain⟨i,j,E,e,q⟩:=h;subst E;subst e;obtain⟨t,rfl⟩:=a;obtain⟨T,rfl⟩:=r;exact iadd_int ⟨.int _,H,I.tok _,⟨_,rfl⟩,q⟩
def di (c:TT)(tb:TS):TS:=λD d H=>∃W:Nat->St->Hp->Prop,(∃m,W m d H)/\∀m d H,W m d H->
 c d H λb e=>if b=true then ∃N:St->Hp->Prop,(∀a h,N a h->∃M,M<m/\W M a h)/\tb { D with nx:=N,ct:=N,bk:=D.nx } d e else D.nx d e
def BM {c:Expr}{t:TT}{tb:TS}(p:PassesOwn (model X.prog X.w) X.A X.env X.xe)(z:PT X c t)(B:yJ X body tb):PS X (.While c body [] o7) (di t tb):=by
 intro P s K H D I h;obtain⟨W,⟨U,y⟩,turn⟩:=h;refine wpAny_While (codeAny_whileLoop (λn T=>∃e u,Inv X P e u T/\W n e u) ?_ U ⟨K,H,I,y⟩)
 rintro n L ⟨d,J,C,x⟩
 refine wpAny_passesOwn p (zQ (z P L d J _ C (turn n d J x)) λb S ⟨r,o,Q⟩=>?_);cases b with
 |true=>
  obtain⟨N,l,Q⟩:=Q;rw[ai rfl];refine wpAny_passesOwn p (zQ (B P S d r _ o Q) λf Y q=>?_);cases f with
  |next=>
   obtain⟨a,g,j,n3⟩:=q;obtain⟨M,E,i⟩:=l a g n3;exact⟨M,E,a,g,j,i⟩
  |cont=>
   obtain⟨a,g,j,n3⟩:=q;obtain⟨M,E,i⟩:=l a g n3;exact⟨M,E,a,g,j,i⟩
  |brk=>exact q|ret v=>exact q
 |false=>
  rw[aj aH];exact wpAny_execs_nil ⟨d,r,o,Q⟩
end
structure It where
 go:Nat->Hp->Prop
 yld:Nat->Hp->V->Hp->Prop
 stop:Nat->Hp->Prop
def wJ (X:Cx)(P:bR)(H:Hp)(b:Addr):Prop:=
 H b=none/\b≠X.env.locals/\b∉X.fs/\(b∈X.ex∨X.s0.heap.objs.size<=b)/\(∀x c,X.env.cells.lookup x=some c->c≠b)/\∀p∈X.pn++P,p.1≠b
def Inv.fpOk {X:Cx}{f:St}{H a:Hp}{s:Shared}(I:Inv X o6 f H s)(h:s.heap.objs.size<=b)(n:a b=none):wJ X o6 a b:=by
 refine⟨n,ne_of_gt (aJ I.lt h),I.nofs h,.inr (a4 I.sz h),λx c e z=>?_,λp d z=>?_⟩
 ·obtain⟨v,q⟩:=I.cell x c e
  exact absurd (aJ q.lt (by rw[z];exact h)) (aS _)
 ·exact absurd (aJ (aM (I.pin p d).1) (by rw[z];exact h)) (aS _)
structure Turn (P:Program)(w:World)(K:Frag)(tg:Expr)(J:It)(fp:bQ)(it:Addr)(tn:Nat->Heap->Prop):Prop where
 mem:it∈fp
 obj:∀i h,tn i h->∀b∈fp,∃o,h.get? b=some o/\∀v,o.data≠.cell v
 keep:∀i h h',tn i h->(∀b∈fp,∀o,h.get? b=some o->h'.get? b=some o)->tn i h'
 item:∀(X:Cx),X.prog=P->X.w=w->X.K=K->X.calm=true->∀(i:Nat)(o6:bR)(s:Shared)(σ:St)(H:Hp)(E:bV),Inv X o6 σ H s->(∀b∈fp,wJ X o6 H b)->tn i s.heap->J.go i H->
  wpAny (model P w) X.A (pyNext (.ref it)) (λr s1=>∃u,r=some u/\
   wpAny (model P w) X.A (letOwnedTupleGo tg (.ref it) u) (λ_ s2=>∃x H',Inv X o6 σ H' s2/\RelV x u/\J.yld i H x H'/\tn (i+1) s2.heap/\∀b∈fp,H' b=none) E s1) E s
 done:∀(X:Cx),X.prog=P->X.w=w->X.K=K->X.calm=true->∀(i:Nat)(o6:bR)(s:Shared)(σ:St)(H:Hp)(E:bV),Inv X o6 σ H s->(∀b∈fp,wJ X o6 H b)->tn i s.heap->J.stop i H->
  wpAny (model P w) X.A (pyNext (.ref it)) (λr s1=>r=none/\Inv X o6 σ H s1) E s
 self:∀(A:Around)(i:Nat)(s:Shared)(Q:bV)(E:bV),tn i s.heap->Q (.ref it) s->wpAny (model P w) A (pyIter (.ref it)) Q E s
abbrev TI:=St->Hp->(It->Hp->Prop)->Prop
inductive LX (X:Cx)(o6:bR)(σ:St)(tg:Expr)(R:It->Hp->Prop)(itv:Value)(s2:Shared):Prop
 |mk (it:Addr) (fp:bQ) (tn:Nat->Heap->Prop) (J:It) (H':Hp) (e:itv=.ref it) (I:Inv X o6 σ H' s2) (T:Turn X.prog X.w X.K tg J fp it tn) (t0:tn 0 s2.heap) (f:(∀b∈fp,wJ X o6 H' b)) (q:R J H')
def PI (X:Cx)(t I:Expr)(i:TI):Prop:=
 ∀(o6:bR)(s:Shared)(σ:St)(H:Hp)(R:It->Hp->Prop),Inv X o6 σ H s->i σ H R->
  wpAny (model X.prog X.w) X.A (eval I X.env) (λv S=>wpAny (model X.prog X.w) X.A (pyIter v) (LX X o6 σ t R) X.xe S) X.xe s
def XB {A:Around}{s:Shared}{i:Addr}{o:Obj}{n:String}{v:Array Value}{Q:Unit->Shared->Prop}(a:s.heap.get? i=some o)(c:o.cls=.type n)(d:o.data=.fields v)
  (b:["enumerate","zip","dict_itemiterator","dict_reverseitemiterator","odict_iterator","itertools.zip_longest","itertools.pairwise"].contains n=false)(H:Q () s):wpAny M A (letOwnedTupleGo tg (.ref i) u) Q E s:=by
 unfold letOwnedTupleGo;cases tg<;>first
  |exact cg H
  |(cases u<;>first
    |exact cg H
    |(
      refine cb (wpAny_load a ?_);rw[c,d];show wpAny M A (if (["enumerate","zip","dict_itemiterator","dict_reverseitemiterator","odict_iterator","itertools.zip_longest","itertools.pairwise"].contains n&&v[0]?==some (rawInt _))=true then _ else _) Q E s;rw[aj (by intro h;rw[b,Bool.false_and]at h;cases h)]
      exact cg H))
noncomputable def Ie (K:Frag)(a:Addr):It:=
 ⟨λi H=>∃X x,qS K H a X/\X[i]? =some x,λi H x h=>h=H/\∀X,qS K H a X->X[i]? =some x,λi H=>∃X,qS K H a X/\X.length<=i⟩
noncomputable def L1 (K:Frag)(a:Addr):It:=
 ⟨λi H=>∃X x,qA K H a X/\X[i]? =some x,λi H x h=>h=H/\∀X,qA K H a X->X[i]? =some x,λi H=>∃X,qA K H a X/\X.length<=i⟩
noncomputable def WK (l:Int)(n:Nat):It:=⟨λi _=>i<n,λi H x h=>h=H/\x=.int (l+i),λi _=>n<=i⟩
def DH {K:Frag}(a it:Addr):Turn P w K tg (Ie K a) [it] it (λi h=>h.IsListIter it a i) where
 mem:=by simp
 obj:=λi h U b f=>by
  have e:b=it:=by simpa using f
  subst e;obtain⟨o,e,c,d⟩:=U;exact⟨o,e,λv z=>by rw[d]at z;cases z⟩
 keep:=λi h h' U k=>U.at λo e=>k it (by simp) o e
 item:=by
  intro X n hw t B i Z s σ H E I hf U l;subst n hw t;obtain⟨xs,x,q,j⟩:=l;obtain⟨g,r,p,J⟩:=I.list q;obtain⟨u,M,D⟩:=r.get j;obtain⟨f0,f1,f2,A,f4,y⟩:=hf it (by simp)
  refine wpAny_pyNext_list_item U p.isList (x:=u) (by simpa using M) λh' S C=>?_
  have Q:Inv X Z σ H { s with heap:=h' }:=I.turned (t':=s.toks) (λb o f e=>(C.2 b f).trans e) f0 f1 A f4 y
  obtain⟨o,e,c,d⟩:=id S;exact⟨u,rfl,XB (s:={ s with heap:=h' }) e c d (by decide) ⟨x,H,Q,D,⟨rfl,λY L=>by rw[I.list_inj L q];exact j⟩,S,λb f=>(hf b f).1⟩⟩
 done:=by
  intro X n hw t B i Z s σ H E I hf U l;subst n hw t;obtain⟨xs,q,j⟩:=l;obtain⟨g,r,p,J⟩:=I.list q;obtain⟨f0,f1,f2,A,f4,y⟩:=hf it (by simp)
  have T:=r.length;exact wpAny_pyNext_list_end (I.ok.hd B) U p.isList (by simp;lia) λh' N=>⟨rfl,I.turned (t':=s.toks) (λb o f e=>N b o f e) f0 f1 A f4 y⟩
 self:=λ_ _ _ _ _ U h=>wpAny_pyIter_listiter U h
def EW {K:Frag}(a it:Addr):Turn P w K tg (L1 K a) [it] it (λi h=>h.IsTupleIter it a i) where
 mem:=by simp
 obj:=λi h U b g=>by
  have e:b=it:=by simpa using g
  subst e;obtain⟨o,e,c,d⟩:=U;exact⟨o,e,λv z=>by rw[d]at z;cases z⟩
 keep:=λi h h' U k=>U.at λo e=>k it (by simp) o e
 item:=by
  intro X n hw t B i Z s σ H E I hf U l;subst n hw t;obtain⟨xs,x,q,j⟩:=l;obtain⟨f,r,p,J⟩:=I.tuple q;obtain⟨u,M,D⟩:=r.get j;obtain⟨f0,f1,f2,A,f4,y⟩:=hf it (by simp)
  refine wpAny_pyNext_tuple_item U (show s.heap.IsTuple a f.toArray from p) (x:=u) (by simpa using M) λh' S C=>?_
  have Q:Inv X Z σ H { s with heap:=h' }:=I.turned (t':=s.toks) (λb o g e=>(C.2 b g).trans e) f0 f1 A f4 y
  obtain⟨o,e,c,d⟩:=id S;exact⟨u,rfl,XB (s:={ s with heap:=h' }) e c d (by decide) ⟨x,H,Q,D,⟨rfl,λY L=>by rw[I.tuple_inj L q];exact j⟩,S,λb g=>(hf b g).1⟩⟩
 done:=by
  intro X n hw t B i Z s σ H E I hf U l;subst n hw t;obtain⟨xs,q,j⟩:=l;obtain⟨f,r,p,J⟩:=I.tuple q;obtain⟨f0,f1,f2,A,f4,y⟩:=hf it (by simp)
  have T:=r.length;exact wpAny_pyNext_tuple_end (I.ok.hd B) U (show s.heap.IsTuple a f.toArray from p) (by simp;lia) λh' N=>⟨rfl,I.turned (t':=s.toks) (λb o g e=>N b o g e) f0 f1 A f4 y⟩
 self:=λ_ _ _ _ _ U h=>wpAny_pyIter_tupleiter U h
def EL {K:Frag}(y:Addr)(L:Int)(n:Nat):Turn P w K tg (WK L n) [y] y (λi h=>IsRangeIter h y (L+(i:Nat) * 1) ((n:Int)-(i:Nat)) 1) where
 mem:=by simp
 obj:=λi h u b a=>by
  have e:b=y:=by simpa using a
  subst e;exact⟨_,u,λv z=>by have Z:Data.fields _=Data.cell v:=z;cases Z⟩
 keep:=λi h B u k=>k y (by simp) _ u
 item:=by
  intro X d C f c i x s N H E I A u g;subst d C f;obtain⟨M,J,U,l,D,j⟩:=A y (by simp)
  have W:=Walks.range (prog:=X.prog) (w:=X.w) (I.ok.hd c) y L 1 n;refine W.item i s _ _ g u λv B T p S Q=>?_;obtain⟨t,rfl⟩:=p;have r:Inv X x N H { s with heap:=B,toks:=T }:=I.turned (λb o a e=>Q b o (by simpa using a) e) M J l D j
  refine⟨_,rfl,XB (s:={ s with heap:=B,toks:=T }) (n := "range_iterator") S rfl rfl (by decide) ⟨.int (L+i),H,r,⟨t,?_⟩,⟨rfl,rfl⟩,S,λb a=>(A b a).1⟩⟩
  rw[Int.mul_one]
 done:=by
  intro X d C f c i x s N H E I A u g;subst d C f;obtain⟨M,J,U,l,D,j⟩:=A y (by simp)
  exact wpAny_pyNext_range_end (I.ok.hd c) u (by have:n<=i:=g;lia) λB q=>⟨rfl,I.turned (t':=s.toks) (λb o a e=>q b o a e) M J l D j⟩
 self:=λ_ _ _ _ _ u h=>wpAny_pyIter_rangeiter u h
section
variable {X:Cx}
def Oy {j:St}{H:Hp}{s:Shared}{R:It->Hp->Prop}{l h:Int}{t u v:Tok}{T:Nat}(I:Inv X o6 j H s)(p:-(2 ^ 62)<=l)(n:l<2 ^ 62)(d:-(2 ^ 62)<=h)(c:h<2 ^ 62)
  (q:R (WK l (h-l).toNat) H):wpAny (model X.prog X.w) X.A (pyIter (.ref s.heap.objs.size)) (LX X o6 j tg R) E { s with heap:=s.heap.push { cls:=.type "range",data:=.fields #[.int l t,.int h u,.int 1 v] },toks:=T }:=by
 refine wpAny_pyIter_range (IsRange.new ..) (small_one p n d c) ?_;have i:Inv X o6 j H { s with heap:=s.heap.push { cls:=.type "range",data:=.fields #[.int l t,.int h u,.int 1 v] },toks:=T }:=I.kept λb o e=>af _ e
 refine⟨(s.heap.push { cls:=.type "range",data:=.fields #[.int l t,.int h u,.int 1 v] }).objs.size,[(s.heap.push { cls:=.type "range",data:=.fields #[.int l t,.int h u,.int 1 v] }).objs.size],_,_,H,rfl,
  i.kept (t':=T) λb o e=>af _ e,EL _ l (h-l).toNat,?_,λb a=>?_,q⟩
 ·have g:l+((0:Nat):Int) * 1=l:=by simp
  have f:(((h-l).toNat:Nat):Int)-((0:Nat):Int)=Builtin.Range.rangeSize l h 1:=by rw[rangeSize_one];split<;>lia
  show IsRangeIter _ _ (l+((0:Nat):Int) * 1) ((((h-l).toNat:Nat):Int)-((0:Nat):Int)) 1;rw[g,f];exact aC _ rfl
 ·have e:b=(s.heap.push { cls:=.type "range",data:=.fields #[.int l t,.int h u,.int 1 v] }).objs.size:=by simpa using a
  subst e;exact i.fpOk (ao _) (i.hok.fresh (ao _))
def dj (t:TA):TI:=λa H R=>t a H λv h=>∃j:Int,v=[.int j]/\-(2 ^ 62)<=j/\j<2 ^ 62/\R (WK 0 j.toNat) h
def dk (t:TA):TI:=λa H R=>t a H λv h=>∃i j:Int,v=[.int i,.int j]/\(-(2 ^ 62)<=i/\i<2 ^ 62/\-(2 ^ 62)<=j/\j<2 ^ 62)/\R (WK i (j-i).toNat) h
def Dw {a:Expr}{T:TA}(g:Gl X "range")(o:X.mg "range"=none)(i:PA X [a] T)(f:starEach [a] X.env=[(false,eval a X.env)]:=by rfl):PI X tg (.Call (.Name "range" p) [a] [] o7) (dj T):=by
 intro P s n H R I h;refine Call_ (Qc I g o boot_range (PyProof.Rows.callWith_type1 (zQ (i o7 P s n H _ I h) λu S ⟨v,w,l,c,Q⟩=>?_) f rfl));obtain⟨j,e,Q,d,q⟩:=Q;subst e;cases c with
 |cons r b=>
  cases b;obtain⟨t,rfl⟩:=r;exact call_range_1 (Oy l (by lia) (by lia) Q d (by simpa using q))
def Ce {a b:Expr}{T:TA}(v:Gl X "range")(z:X.mg "range"=none)(w:PA X [a,b] T)(u:starEach [a,b] X.env=[(false,eval a X.env),(false,eval b X.env)]:=by rfl)(c:starEach [b] X.env=[(false,eval b X.env)]:=by rfl):
  PI X tg (.Call (.Name "range" p) [a,b] [] o7) (dk T):=by
 intro P s y H R I h;refine Call_ (Qc I v z boot_range (PyProof.Rows.callWith_type1 (zQ (w o7 P s y H _ I h) λU S ⟨A,C,x,f,Q⟩=>?_) (by rw[u,c]) (by rw[c];rfl)))
 obtain⟨i,j,e,⟨Q,o,n,l⟩,q⟩:=Q;subst e;cases f with
 |cons r d=>
  cases d with
  |cons g d=>
   cases d;obtain⟨t,rfl⟩:=r;obtain⟨B,rfl⟩:=g;exact call_range_2 (Oy x Q o n l q)
def dm (w:TI)(g:TG)(tb:TS):TS:=λD d H=>w d H λJ e=>∃W:Nat->Nat->St->Hp->Prop,(∃m,W 0 m d e)/\∀i m d H,W i m d H->
 (J.stop i H/\D.nx d H)∨(J.go i H/\∃N:St->Hp->Prop,(∀a h,N a h->∃M,M<m/\W (i+1) M a h)/\∀x h,J.yld i H x h->g x d h λb c=>tb { D with nx:=N,ct:=N,bk:=D.nx } b c)
def K2 (f:bQ)(h:Heap):bR:=f.filterMap λb=>(h.get? b).map λo=>(b,o)
def Gn {o:Obj}(H:b∈fp)(e:h.get? b=some o):(b,o)∈K2 fp h:=List.mem_filterMap.mpr ⟨b,H,by rw[e];rfl⟩
def DR {p:Addr×Obj}(H:p∈K2 fp h):p.1∈fp/\h.get? p.1=some p.2:=by
 obtain⟨b,a,e⟩:=List.mem_filterMap.mp H;cases q:h.get? b with
 |none=>rw[q]at e;cases e|some o=>
  rw[q]at e;have E:(b,o)=p:=aE e;subst E;exact⟨a,q⟩
def Inv.pinned {f:St}{H:Hp}{s:Shared}(I:Inv X o6 f H s)(g:∀b∈fp,wJ X o6 H b)(c:∀b∈fp,∃o,s.heap.get? b=some o/\∀v,o.data≠.cell v):Inv X (o6++K2 fp s.heap) f H s:=
 I.pins_of λp a=>(cx.mp a).elim (λz=>I.pin p (aP _ z)) λz=>by obtain⟨h,e⟩:=DR z;obtain⟨l,j,i,_⟩:=g p.1 h;obtain⟨o,E,d⟩:=c p.1 h;rw[e]at E;cases E;exact⟨e,l,j,i,d⟩
def Inv.unpinned {P:bR}{a:St}{H:Hp}{s:Shared}(I:Inv X (o6++P) a H s):Inv X o6 a H s:=I.pins_of λp h=>I.pin p (aP _ (bt _ h))
def dr {U:TI}{g:TG}{tb:TS}(z:PassesOwn (model X.prog X.w) X.A X.env X.xe)(Z:X.calm=true)(hi:PI X tg o8 U)(hg:PG X tg g)(l:yJ X body tb)
  (hs:∀x,foldedSetIterable o8 X.env x=pure x:=by intro _;rfl):PS X (.For tg o8 body [] o7) (dm U g tb):=by
 intro o6 s σ H D I h;refine wpAny_For (zQ (hi o6 s σ H _ I h) λv s1 h1=>zQ h1 λitv s2 h2=>?_) hs;obtain⟨it,fp,Y,J,H2,e,I2,T,Zh,f2,W,⟨m0,w0⟩,turn⟩:=h2;subst e;have S:∀{H':Hp},(∀b∈fp,H' b=none)->∀b∈fp,wJ X o6 H' b:=λhn b l=>⟨hn b l,(f2 b l).2⟩;refine codeAny_forLoop_any (λn s'=>∃i j H',Inv X o6 j H' s'/\Y i s'.heap/\(∀b∈fp,H' b=none)/\W i n j H') ?_ m0 ⟨0,σ,H2,I2,Zh,λb l=>(f2 b l).1,w0⟩
 rintro n s3 ⟨i,c,C,I3,ZC,B,w3⟩
 rcases turn i n c C w3 with ⟨stop,qn⟩|⟨go,N,hN,step⟩
 ·refine wpAny_passesOwn z (zQ (T.done X rfl rfl rfl Z i o6 s3 c C X.xe I3 (S B) ZC stop) λr s4 ⟨L,I4⟩=>?_)
  subst L;exact wpAny_execs_nil ⟨c,C,I4,qn⟩
 ·refine wpAny_passesOwn z (zQ (T.item X rfl rfl rfl Z i o6 s3 c C X.xe I3 (S B) ZC go) λr s4 ⟨u,L,h4⟩=>?_)
  subst L;refine wpAny_passesOwn z (zQ h4 λ_ s5 ⟨x,H5,I5,r5,y5,t,M⟩=>?_);have P:=I5.pinned (S M) (T.obj _ _ t);refine wpAny_passesOwn z (zQ (hg _ s5 c H5 x u _ P r5 (step x H5 y5)) λ_ s6 ⟨E,H6,I6,q6⟩=>?_);refine wpAny_passesOwn z (zQ (l _ s6 E H6 _ I6 q6) λf K Q=>?_);have again:∀{a:St}{q:Hp},Inv X (o6++K2 fp s5.heap) a q K->N a q->∃m,m<n/\∃i j H',Inv X o6 j H' K/\Y i K.heap/\(∀b∈fp,H' b=none)/\W i m j H':=λ {a q} p y=>by obtain⟨m',hm,w7⟩:=hN a q y;refine⟨m',hm,i+1,a,q,p.unpinned,T.keep _ _ _ t λb l o e=>(p.pin (b,o) (aP _ (aP _ (Gn l e)))).1,λb l=>?_,w7⟩;obtain⟨o,e,d⟩:=T.obj _ _ t b l;exact(p.pin (b,o) (aP _ (aP _ (Gn l e)))).2.1
  cases f with|next=>obtain⟨a,q,p,y⟩:=Q;exact again p y|cont=>obtain⟨a,q,p,y⟩:=Q;exact again p y|brk=>obtain⟨a,q,p,Q⟩:=Q;exact⟨a,q,p.unpinned,Q⟩|ret v=>obtain⟨x7,a,q,p,r7,Q⟩:=Q;exact⟨x7,a,q,p.unpinned,r7,Q⟩
end
abbrev R2:=V->V->Hp->VK->Prop
def qM (X:Cx)(f:Value->Value->Sem Value)(r:R2):Prop:=
 ∀(o6:bR)(s:Shared)(σ:St)(H:Hp)(x y:V)(v u:Value)(Q:VK),Inv X o6 σ H s->RelV x v->RelV y u->r x y H Q->
  wpAny (model X.prog X.w) X.A (f v u) (EP X o6 σ Q) X.xe s
def Vd (X:Cx)(f:Value->Sem Value)(r:V->Hp->VK->Prop):Prop:=
 ∀(o6:bR)(s:Shared)(σ:St)(H:Hp)(x:V)(v:Value)(Q:VK),Inv X o6 σ H s->RelV x v->r x H Q->
  wpAny (model X.prog X.w) X.A (f v) (EP X o6 σ Q) X.xe s
def j9 (X:Cx)(f:Value)(r:List V->Hp->VK->Prop):Prop:=
 ∀(o6:bR)(s:Shared)(σ:St)(H:Hp)(xs:List V)(us:bP)(Q:VK),Inv X o6 σ H s->Vals xs us->r xs H Q->
  wpAny (model X.prog X.w) X.A (call f us) (EP X o6 σ Q) X.xe s
def dt (X:Cx)(r:V->Hp->(Bool->Hp->Prop)->Prop):Prop:=
 ∀(o6:bR)(s:Shared)(σ:St)(H:Hp)(x:V)(v:Value)(Q:Bool->Hp->Prop),Inv X o6 σ H s->RelV x v->r x H Q->
  wpAny (model X.prog X.w) X.A (truthy v) (TP X o6 σ Q) X.xe s
def WJ (r:R2)(t tb:TE):TE:=λa H Q=>t a H λx b=>tb a b λy h=>r x y h Q
def LU (r:V->Hp->VK->Prop)(t:TE):TE:=λa H Q=>t a H λx h=>r x h Q
def rI (C:Int->Int->Prop)(g:Int->Int->V):R2:=λx y H Q=>∃i j,x=.int i/\y=.int j/\C i j/\Q (g i j) H
def Za (g:Int->Int->V):R2:=λx y H Q=>∃i j,x=.int i/\y=.int j/\Q (g i j) H
def rU (g:Int->V):V->Hp->VK->Prop:=λx H Q=>∃i,x=.int i/\Q (g i) H
section
variable {X:Cx}{a b:Expr}{ta tb:TE}
def SR (j:PE X a ta)(i:PE X b tb){s:Shared}{o:St}{H:Hp}{R:V->V->Hp->Prop}(I:Inv X o6 o H s)
  (h:ta o H λx t=>tb o t λy c=>R x y c){f:Value->Value->Sem Value}
  (B:∀v u p x y c,Inv X o6 o c p->RelV x v->RelV y u->R x y c->wpAny (model X.prog X.w) X.A (f v u) Q X.xe p):
  wpAny (model X.prog X.w) X.A (eval a X.env) (λv d=>wpAny (model X.prog X.w) X.A (eval b X.env) (λu S=>wpAny (model X.prog X.w) X.A (f v u) Q X.xe S) X.xe d) X.xe s:=by
 refine zQ (j o6 s o H _ I h) λv z ⟨x,t,n,e,g⟩=>?_;refine zQ (i o6 z o t _ n g) λu p ⟨y,c,l,r,q⟩=>?_;exact B v u p x y c l e r q
def du {f:Operator}{r:R2}(o:qM X (binaryOp f) r)(d:PE X a ta)(c:PE X b tb):PE X (.BinOp a f b o7) (WJ r ta tb):=by intro p s g H Q I h;exact wpAny_BinOp (SR d c I h λv u S x y e i rx ry q=>o p S g e x y v u Q i rx ry q)
def MY {e:UnaryOp}{r:V->Hp->VK->Prop}(o:Vd X (unaryOp e) r)(c:PE X a ta):PE X (.UnaryOp e a o7) (LU r ta):=by intro p s d H Q I h;exact UnaryOp_ (zQ (c p s d H _ I h) λv S ⟨x,f,i,b,q⟩=>o p S d f x v Q i b q)
def YZ {f:Value->Value->Sem Value}{C:Int->Int->Prop}{g:Int->Int->Int}
  (r:∀(i j:Int)(t u:Tok)(s:Shared)(Q:bV)(E:bV),C i j->Q (.int (g i j) s.toks) { s with toks:=s.toks+1 }->wpAny (model X.prog X.w) X.A (f (.int i t) (.int j u)) Q E s):
  qM X f (rI C λi j=>.int (g i j)):=by
 intro p s a H x y v u Q I rx ry h;obtain⟨i,j,rfl,rfl,c,q⟩:=h;obtain⟨t,rfl⟩:=rx;obtain⟨T,rfl⟩:=ry;exact r i j t T s _ _ c ⟨.int (g i j),H,I.tok _,⟨_,rfl⟩,q⟩
def XW {f:Value->Value->Sem Value}{g:Int->Int->Int}
  (r:∀(i j:Int)(t u:Tok)(s:Shared)(Q:bV)(E:bV),Q (.int (g i j) s.toks) { s with toks:=s.toks+1 }->wpAny (model X.prog X.w) X.A (f (.int i t) (.int j u)) Q E s):
  qM X f (Za λi j=>.int (g i j)):=by
 intro p s a H x y v u Q I rx ry h;obtain⟨i,j,rfl,rfl,q⟩:=h;obtain⟨t,rfl⟩:=rx;obtain⟨T,rfl⟩:=ry;exact r i j t T s _ _ ⟨.int (g i j),H,I.tok _,⟨_,rfl⟩,q⟩
def XG {f:Value->Value->Sem Value}{g:Int->Int->Bool}
  (r:∀(i j:Int)(t u:Tok)(s:Shared)(Q:bV)(E:bV),Q (.bool (g i j)) s->wpAny (model X.prog X.w) X.A (f (.int i t) (.int j u)) Q E s):
  qM X f (Za λi j=>.bl (g i j)):=by
 intro p s a H x y v u Q I rx ry h;obtain⟨i,j,rfl,rfl,q⟩:=h;obtain⟨t,rfl⟩:=rx;obtain⟨T,rfl⟩:=ry;exact r i j t T s _ _ ⟨.bl (g i j),H,I,rfl,q⟩
def Sw (i j:Int):Prop:=0<=j/\j<=1000000/\i.natAbs<2 ^ 64
def Wm (i j:Int):Prop:=(-(2 ^ 64)<i/\i<2 ^ 64)∨(-(2 ^ 64)<j/\j<2 ^ 64)∨i.natAbs<2 ^ 256/\j.natAbs<2 ^ 256
def Wm.ok {i j:Int}(h:Wm i j):IntMulOk i j:=by
 rcases h with ⟨a,H⟩|⟨a,H⟩|⟨a,H⟩
 ·exact .of_left (intBits_le_64 a H)
 ·exact .of_right (intBits_le_64 a H)
 ·exact .of_le (PySem.intBits_le_iff.mpr a) (PySem.intBits_le_iff.mpr H) (by decide)
def two_pow_nn (k:Nat):(0:Int)<=2 ^ k:=by rw[two_pow_cast];exact Int.natCast_nonneg _
def dv:qM X (binaryOp .Add) (Za λi j=>.int (i+j)):=XW λ_ _ _ _ _ _ _ q=>add_int q
def dw:qM X (binaryOp .Sub) (Za λi j=>.int (i-j)):=XW λ_ _ _ _ _ _ _ q=>sub_int q
def dy:qM X (binaryOp .Mult) (rI Wm λi j=>.int (i * j)):=YZ λ_ _ _ _ _ _ _ h q=>mul_int q h.ok
def dz:qM X (binaryOp .Mod) (rI (λ_ j=>0<j) λi j=>.int (i%j)):=YZ λi j _ _ _ _ _ h q=>by have H:(0:Int)<j:=h;exact mod_int' (by lia) (by rw[Int.fmod_eq_emod_of_nonneg i (by lia)];exact q)
def dA:qM X (binaryOp .Pow) (rI Sw λi j=>.int (i ^ j.toNat)):=YZ λ_ _ _ _ _ _ _ h q=>pow_int_small h.1 h.2.1 h.2.2 q
def dB:qM X (binaryOp .LShift) (rI Sw λi j=>.int (i * 2 ^ j.toNat)):=YZ λ_ _ _ _ _ _ _ h q=>lshift_int_small h.1 h.2.1 h.2.2 q
def dC:qM X (binaryOp .RShift) (rI (λ_ j=>0<=j) λi j=>.int (i/2 ^ j.toNat)):=YZ λi j _ _ _ _ _ h q=>
 rshift_int h (by rw[Int.fdiv_eq_ediv_of_nonneg i (two_pow_nn _)];exact q)
def dD:qM X (binaryOp .BitAnd) (Za λi j=>.int (Builtin.bitAnd i j)):=XW λ_ _ _ _ _ _ _ q=>and_int q
def dE:qM X (binaryOp .BitXor) (Za λi j=>.int (Builtin.bitXor i j)):=XW λ_ _ _ _ _ _ _ q=>xor_int q
def dF {f:Value->Sem Value}{g:Int->Int}
  (r:∀(i:Int)(t:Tok)(s:Shared)(Q:bV)(E:bV),Q (.int (g i) s.toks) { s with toks:=s.toks+1 }->wpAny (model X.prog X.w) X.A (f (.int i t)) Q E s):
  Vd X f (rU λi=>.int (g i)):=by
 intro p s a H x v Q I rx h;obtain⟨i,rfl,q⟩:=h;obtain⟨t,rfl⟩:=rx;exact r i t s _ _ ⟨.int (g i),H,I.tok _,⟨_,rfl⟩,q⟩
def N8:Vd X (unaryOp .USub) (rU λi=>.int (-i)):=dF λ_ _ _ _ _ q=>neg_int q
variable {c:Expr}{tc:TE}
def dG {a:St}{H:Hp}{s:Shared}{Q:VK}{k K:Bool}(I:Inv X o6 a H s)(q:Q (.bl k) H)(e:k=K):EP X o6 a Q (.bool K) s:=by subst e;exact⟨.bl k,H,I,rfl,q⟩
def dH:qM X (compareOp .Lt) (Za λi j=>.bl (decide (i<j))):=XG λ_ _ _ _ _ _ _ q=>lt_int q
def dI:qM X (compareOp .LtE) (Za λi j=>.bl (decide (i<=j))):=XG λ_ _ _ _ _ _ _ q=>le_int q
def dJ:qM X (compareOp .Gt) (Za λi j=>.bl (decide (j<i))):=XG λ_ _ _ _ _ _ _ q=>gt_int q
def dM:qM X (compareOp .GtE) (Za λi j=>.bl (decide (j<=i))):=XG λ_ _ _ _ _ _ _ q=>ge_int q
def Aq:qM X (compareOp .IsNot) (λx y H Q=>y=.non/\Q (.bl (!decide (x=.non))) H):=by
 intro p s a H x y v u Q I rx ry h;obtain⟨rfl,q⟩:=h;cases ry;refine isnot_none_gen (dG I q ?_);cases x<;>first
  |(cases rx;rfl)
  |(obtain⟨t,rfl⟩:=rx;rfl)
def qM.or {f:Value->Value->Sem Value}{r a:R2}(h:qM X f r)(c:qM X f a):qM X f (λx y H Q=>r x y H Q∨a x y H Q):=by
 intro p s b H x y v u Q I rx ry q;rcases q with q|q
 ·exact h p s b H x y v u Q I rx ry q
 ·exact c p s b H x y v u Q I rx ry q
def dN {r:R2}(o:qM X (compareOp op) r)(d:PE X a ta)(c:PE X b tb)(g:behindInMarks op b=false):PE X (.Compare a [op] [b] o7) (WJ r ta tb):=by intro p s f H Q I h;exact wpAny_Compare1 (SR d c I h λv u S x y e i rx ry q=>o p S f e x y v u Q i rx ry q) g
def M7 (t:TE):TT:=λa H Q=>t a H λx h=>∃k,x=.bl k/\Q k h
def dO {r:R2}(o:qM X (compareOp op) r)(n:PE X a ta)(l:PE X b tb)(E:behindInMarks op b=false):PT X (.Compare a [op] [b] o7) (M7 (WJ r ta tb)):=by
 intro P s C H Q I h;refine wpAny_isTrue_Compare1 (zQ (n P s C H _ I h) λv D ⟨x,J,w,g,j⟩=>zQ (l P D C J _ w j) λu S ⟨y,B,t,f,i⟩=>
  zQ (o P S C B x y v u _ t g f i) λc K ⟨z,A,p,d,k,e,q⟩=>?_) E
 subst e;cases d;exact wpAny_truthy_bool ⟨A,p,q⟩
def Te (r a:R2)(T tb t:TE):TE:=λd H Q=>T d H λx e=>tb d e λy c=>r x y c λz h=>∃k,z=.bl k/\
 (if k=true then t d h λw b=>a y w b Q else Q (.bl false) h)
def BH {o:CmpOp}{r i:R2}(D:qM X (compareOp op) r)(f:qM X (compareOp o) i)(K:PE X a ta)(J:PE X b tb)(E:PE X c tc)
  (hm:lastMarks [op,o] [b,c]=false:=by with_unfolding_all rfl):PE X (.Compare a [op,o] [b,c] o7) (Te r i ta tb tc):=by
 intro T s U H Q I h;refine Compare_chain (zQ (K T s U H _ I h) λv s1 ⟨x,H1,N,t,C⟩=>chain_link (zQ (J T s1 U H1 _ N C) λu s2 ⟨y,S,M,g,B⟩=>
  zQ (D T s2 U S x y v u _ M t g B) λd s3 ⟨z,l,j,p,k,e,q⟩=>?_)) hm
 subst e;cases p;refine wpAny_truthy_bool ?_;cases k with|false=>exact ite_ff ⟨.bl false,l,j,rfl,q⟩|true=>exact ite_tt (chain_last (zQ (E T s3 U l _ j q) λw Y ⟨Z,P,L,n,A⟩=>f T Y U P y Z u w Q L g n A))
def BG {o:CmpOp}{r i:R2}(K:qM X (compareOp op) r)(f:qM X (compareOp o) i)(N:PE X a ta)(M:PE X b tb)(L:PE X c tc)
  (hm:lastMarks [op,o] [b,c]=false:=by with_unfolding_all rfl):PT X (.Compare a [op,o] [b,c] o7) (M7 (Te r i ta tb tc)):=by
 intro o6 s σ H Q I h;refine isTrue_chain (zQ (N o6 s σ H _ I h) λv s1 ⟨x,H1,I1,A,E⟩=>test_link (zQ (M o6 s1 σ H1 _ I1 E) λu s2 ⟨y,H2,Y,g,D⟩=>
  zQ (K o6 s2 σ H2 x y v u _ Y A g D) λd s3 ⟨z,l,j,t,k,e,q⟩=>?_)) hm
 subst e;cases t;refine wpAny_truthy_bool ?_;cases k with
 |false=>
  obtain⟨k',S,J⟩:=q;cases S;exact ite_ff ⟨l,j,J⟩
 |true=>
  refine ite_tt (test_last (zQ (L o6 s3 σ l _ j q) λw s4 ⟨Z,H4,U,p,C⟩=>zQ (f o6 s4 σ H4 y Z u w _ U g p C) λd' s5 ⟨z2,H5,T,n,k2,P,B⟩=>?_));subst P;cases n;exact wpAny_truthy_bool ⟨H5,T,B⟩
def LH (K:Frag)(x:V)(H:Hp)(k:Bool):Prop:=
 match x with|.non=>k=false|.bl b=>k=b|.int i=>k=(i != 0)|.str y=>y.length<=sizeLine/\k=((y.length:Int) != 0)|.byt y=>y.size<=sizeLine/\k=((y.size:Int) != 0)|.ref p=>(∃X,qS K H p X/\k = !X.isEmpty)∨(∃X,qA K H p X/\k = !X.isEmpty)∨∃a,H p=some (.dK a)/\k = !a.isEmpty|_=>False
def EC {a:Type}{K:List (a×V)}{v:List (a×Value)}(r:KV K v):(!v.isEmpty) = !K.isEmpty:=by cases r<;>rfl
def Pz {x:List V}(r:Vals x oI):(!oI.toArray.isEmpty) = !x.isEmpty:=by cases r<;>simp
def Jn:(sizeLine:Nat)<2 ^ 63:=by rw[sizeLine_eq];decide
def dP:dt X (λx H Q=>∃k,LH X.K x H k/\Q k H):=by
 intro A s B H x v Q I rx h;obtain⟨k,e,q⟩:=h;have g:=Jn;have f:sizeLine=16777216:=sizeLine_eq;cases x with
 |non=>
  cases rx;have E:k=false:=e;subst E;exact truthy_none ⟨H,I,q⟩
 |bl b=>
  cases rx;have E:k=b:=e;subst E;exact wpAny_truthy_bool ⟨H,I,q⟩
 |int i=>
  obtain⟨t,rfl⟩:=rx;have E:k=(i != 0):=e;subst E;exact PySem.P.truthy_int ⟨H,I,q⟩
 |str y=>
  obtain⟨t,rfl⟩:=rx;obtain⟨d,E⟩:y.length<=sizeLine/\k=((y.length:Int) != 0):=e;subst E;exact PySem.P.truthy_str (by lia) ⟨H,I.tok _,q⟩
 |byt y=>
  obtain⟨t,rfl⟩:=rx;obtain⟨d,E⟩:y.size<=sizeLine/\k=((y.size:Int) != 0):=e;subst E;exact PySem.W.truthy_bytes (by lia) ⟨H,I.tok _,q⟩
 |ref p=>
  cases rx;have E:(∃o,qS X.K H p o/\k = !o.isEmpty)∨(∃o,qA X.K H p o/\k = !o.isEmpty)∨∃j,H p=some (.dK j)/\k = !j.isEmpty:=e;rcases E with ⟨o,a,E⟩|⟨o,a,E⟩|⟨j,a,E⟩
  ·subst E
   obtain⟨c,r,l,z⟩:=I.list a;have n:=r.length;exact wpAny_truthy_list l.isList (by simp only[aD];lia) ⟨H,I.tok _,by rw[Pz r];exact q⟩
  ·subst E
   obtain⟨c,r,l,z⟩:=I.tuple a;have n:=r.length;exact truthy_tuple l (by simp only[aD];lia) ⟨H,I.tok _,by rw[Pz r];exact q⟩
  ·subst E
   obtain⟨z,S,u,r,m⟩:j.length<=sizeLine/\(p==sysModules)=false/\∃u,KV j u/\s.heap.DictOf (yZ X.prog X.w) p u:=I.hok p _ a;have n:j.length=u.length:=Paired.length r;exact wpAny_truthy_dict S m (by lia) ⟨H,I.tok _,by rw[EC r];exact q⟩
 |_=>exact(show False from e).elim
def C6 (c:PE X a ta)(e:∀w,isTrue a X.env w=(do let v <- w;standAt a.pos;holding [v] (truthy v))):
  PT X a (λσ H Q=>ta σ H λx b=>∃k,LH X.K x b k/\Q k b):=by
 intro p s σ H Q I h;exact isTrue_plain (zQ (c p s σ H _ I h) λv S ⟨x,d,i,r,q⟩=>dP p S σ d x v Q i r q) (e _)
def vals1 {x:V}(r:Vals [x] us):∃u,us=[u]/\RelV x u:=by
 cases r with|cons b a=>cases a;exact⟨_,rfl,b⟩
def vals2 {x y:V}(r:Vals [x,y] us):∃u w,us=[u,w]/\RelV x u/\RelV y w:=by
 cases r with
 |cons d c=>
  cases c with|cons b a=>cases a;exact⟨_,_,rfl,d,b⟩
def CA:j9 X (.builtin "abs") (λx H Q=>∃i,x=[.int i]/\Q (.int (if i<0 then -i else i)) H):=by
 intro p s a H x U Q I r h;obtain⟨i,rfl,q⟩:=h;obtain⟨u,rfl,t,rfl⟩:=vals1 r;exact call_abs_int λu T=>⟨.int (if i<0 then -i else i),H,I.tok _,⟨_,rfl⟩,q⟩
def DO (c:X.calm=true):j9 X (.builtin "max") (λx H Q=>∃i j,x=[.int i,.int j]/\Q (.int (if j > i then j else i)) H):=by
 intro p s b H x U Q I r h;obtain⟨i,j,rfl,q⟩:=h;obtain⟨u,w,rfl,⟨t,rfl⟩,⟨d,rfl⟩⟩:=vals2 r;refine max_two_ints (I.ok.hd c) λe T k=>⟨_,H,I.kept k,?_,q⟩
 by_cases a:j > i
 ·rw[ai a,ai a];exact⟨_,rfl⟩
 ·rw[aj a,aj a];exact⟨_,rfl⟩
def Dd (c:X.calm=true):j9 X (.builtin "min") (λx H Q=>∃i j,x=[.int i,.int j]/\Q (.int (if j<i then j else i)) H):=by
 intro p s b H x U Q I r h;obtain⟨i,j,rfl,q⟩:=h;obtain⟨u,w,rfl,⟨t,rfl⟩,⟨d,rfl⟩⟩:=vals2 r;refine min_two_ints (I.ok.hd c) λe T k=>⟨_,H,I.kept k,?_,q⟩
 by_cases a:j<i
 ·rw[ai a,ai a];exact⟨_,rfl⟩
 ·rw[aj a,aj a];exact⟨_,rfl⟩
def De:j9 X (.type "int") (λx H Q=>(∃i,x=[.int i]/\Q (.int i) H)∨∃k,x=[.bl k]/\Q (.int (if k then 1 else 0)) H):=by
 intro p s b H x U Q I r h;rcases h with ⟨i,rfl,q⟩|⟨k,rfl,q⟩
 ·obtain⟨u,rfl,t,rfl⟩:=vals1 r
  exact call_int_int ⟨.int i,H,I,⟨_,rfl⟩,q⟩
 ·obtain⟨u,rfl,a⟩:=vals1 r
  cases a;exact call_int_bool ⟨.int (if k then 1 else 0),H,I.tok _,⟨_,rfl⟩,q⟩
end
structure Sz (h:Heap)(x dx C:Addr)(mA:bX):Prop where
 obj:h.get? x=some (instObj C dx)
 ns:h.Ns1 dx mA
 ne:dx≠x
def Du {D:Addr}{M:bX}(n:h.Ns1 D M):∃d,h.get? D=some d/\∀name,lookIn name d=some (M name):=by
 obtain⟨o,E,p,c,i,f,_,g⟩:=n;refine⟨o,c,λname=>?_⟩;have e:=g name;unfold nsFind findBy at e;rw[<- Array.find?_toList]at e;unfold lookIn;rw[i];dsimp only
 split
 ·rename_i y q
  rw[q]at e;exact congrArg some e
 ·rename_i q
  rw[q]at e;have a:E.toList.any (·.refKey)=false:=by rw[List.any_eq_false];intro y b;obtain⟨z,t,H⟩:=f y (Array.mem_toList_iff.mp b);simp[DictEntry.refKey,H]
  have A:¬E.toList.any (·.refKey)=true:=by rw[a];exact aH
  rw[aj A];exact congrArg some e
def Sz.look {x d C:Addr}{M:bX}(I:Sz h x d C M):∃o,PySem.W.InstAt h x (instObj C d) C (some o)/\∀name,lookIn name o=some (M name):=
 let ⟨o,H,l⟩:=Du I.ns
 ⟨o,⟨I.obj,rfl,rfl,H⟩,l⟩
def Qu.some_of {v:V}{o:Option Value}(r:Qu (some v) o):∃u,o=some u/\RelV v u:=by
 cases o with|none=>exact(show False from r).elim|some u=>exact⟨u,rfl,r⟩
section
variable {H:Hp}{C dx:Addr}{fs:List (Str×V)}
def dQ (b:jf P w H h)(e:H a=some (.ins C dx fs)):∃M,Sz h a dx C M/\(∀f,Qu (fs.lookup f) (M f))/\PySem.Within M (fs.map (·.1))/\fs.length<=1000/\H dx=some (.own a):=by
 obtain⟨d,z,N,ob,M,n,r,q⟩:=(show qX P w H h a (.ins C dx fs) from b a _ e)
 exact⟨M,⟨ob,n,N⟩,r,q,z,d⟩
end
structure w8 (K:Frag)(C:Addr):Prop where
 pg:plainGet K C Str.empty=true
 hd:PySem.W.hasDictIn K C=true
 po:PySem.W.plainOver K C=true
 sa:PySem.W.findIn K (.ref C) "__setattr__"=some (some (.builtin "object.__setattr__"))
def w8.get {K:Frag}{C:Addr}(c:w8 K C)(f:Str):plainGet K C f=true:=c.pg
section
variable {X:Cx}{σ:St}{H:Hp}{s:Shared}{A:Around}{c:Value}{b:Bool}
inductive gG (K:Frag)(H:Hp):V->Value->Prop where
 |non:gG K H .non (.type "NoneType")
 |bl (x:Bool):gG K H (.bl x) (.type "bool")
 |int (i:Int):gG K H (.int i) (.type "int")
 |str (x:Str):gG K H (.str x) (.type "str")
 |flt (x:UInt64):gG K H (.flt x) (.type "float")
 |lst {a:Addr} {xs:List V} (e:H a=some (.lst xs)):gG K H (.ref a) (.type "list")
 |frz {a:Addr} {o:Obj} {xs:List V} (e:H a=some (.frz o (.lst xs))):gG K H (.ref a) (.type "list")
 |tup {a:Addr} {xs:List V} (e:H a=some (.tup xs)):gG K H (.ref a) (.type "tuple")
 |dK {a:Addr} {kvs:List (Key×V)} (e:H a=some (.dK kvs)):gG K H (.ref a) (.type "dict")
 |dT {a:Addr} {kvs:List (List Key×V)} (e:H a=some (.dT kvs)):gG K H (.ref a) (.type "dict")
 |ins {a C dx:Addr} {fs:List (Str×V)} (e:H a=some (.ins C dx fs)) (cl:w8 K C) (ha:PySem.W.findIn K (.ref C) "__class__"=some (some (.builtin "object.__class__")))
   (hn:PySem.W.specialIn K (.builtin "object.__class__") "__get__"=some (some (.builtin "getset_descriptor.__get__"))) (htk:PySem.W.takesIn K (.builtin "object.__class__")=some true)
   (hm:PySem.W.mroIn K C (.type "object")=some true):gG K H (.ref a) (.ref C)
def P2 {x:V}{t:Value}(I:Inv X o6 σ H s)(rx:RelV x u)(ty:gG X.K H x t)(e:kitOne X.K t c=some b)(h:∀T,Q (.bool b) { s with toks:=T }):
  wpAny (model X.prog X.w) A (call (.builtin "isinstance") [u,c]) Q E s:=by
 cases ty with
 |non=>cases (show u=Value.none from rx);exact bC kitx_none I.kIn True.intro e (λz=>nomatch z) h
 |bl y=>cases (show u=Value.bool y from rx);exact bC kitx_bool I.kIn True.intro e (λz=>nomatch z) h
 |int i=>obtain⟨t,q⟩:=(show ∃t,u=Value.int i t from rx);cases q;exact bC kitx_int I.kIn True.intro e (λz=>nomatch z) h
 |str y=>obtain⟨t,q⟩:=(show ∃t,u=Value.str y t from rx);cases q;exact bC kitx_str I.kIn True.intro e (λz=>nomatch z) h
 |flt y=>obtain⟨t,q⟩:=(show ∃t,u=Value.float y t from rx);cases q;exact bC kitx_float I.kIn True.intro e (λz=>nomatch z) h
 |@lst a xs ea=>
  cases (show u=Value.ref a from rx)
  obtain⟨_,_,n,_,r⟩:=(show qX X.prog X.w H s.heap a (.lst xs) from I.hok a _ ea)
  exact bC kitx_list I.kIn ⟨_,r,rfl⟩ e (λz=>nomatch z) h
 |@frz a ob xs ea=>
  cases (show u=Value.ref a from rx)
  obtain⟨_,_,_,n,_,r⟩:=(show qX X.prog X.w H s.heap a (.frz ob (.lst xs)) from I.hok a _ ea)
  exact bC kitx_list I.kIn ⟨_,r,rfl⟩ e (λz=>nomatch z) h
 |@tup a xs ea=>
  cases (show u=Value.ref a from rx)
  obtain⟨_,_,_,p⟩:=(show qX X.prog X.w H s.heap a (.tup xs) from I.hok a _ ea)
  obtain⟨o,r,v,_⟩:=p;exact bC kitx_tuple I.kIn ⟨o,r,v.1⟩ e (λz=>nomatch z) h
 |@dK a kvs ea=>
  cases (show u=Value.ref a from rx)
  obtain⟨_,_,B,_,p⟩:=(show qX X.prog X.w H s.heap a (.dK kvs) from I.hok a _ ea)
  obtain⟨o,g,j,r,v,_⟩:=p;exact bC kitx_dict I.kIn ⟨o,r,v.1⟩ e (λz=>nomatch z) h
 |@dT a kvs ea=>
  cases (show u=Value.ref a from rx)
  obtain⟨_,_,xs,_,o,g,j,r,v,_⟩:=(show qX X.prog X.w H s.heap a (.dT kvs) from I.hok a _ ea)
  exact bC kitx_dict I.kIn ⟨o,r,v.1⟩ e (λz=>nomatch z) h
 |@ins a C dx fs ea cl f hn d hm=>
  cases (show u=Value.ref a from rx)
  obtain⟨M,O,_⟩:=dQ I.hok ea;obtain⟨l,J,_⟩:=O.look;exact bC (PySem.W.kitx_own (cl.get _) cl.hd f hn d hm) I.kIn J e (λz=>nomatch z) h
end
structure jd (k:Nat)(A:Around):Prop where
 hd:A.handled=none
 dp:A.depth+3 * k+5<recursionLimit
 un:A.units+16 * k+200<cLine
 gd:A.guards=some []
def jd.mono {j k:Nat}{A:Around}(r:jd k A)(h:j<=k):jd j A:=⟨r.hd,by have:=r.dp;lia,by have:=r.un;lia,r.gd⟩
theorem jd.deeper {k:Nat}{A:Around}(r:jd (k+1) A)(e:Env):jd k (A.deeper e):=
 ⟨r.hd,by have:=r.dp;show A.depth+1+3 * k+5<_;lia,by have:=r.un;show A.units+3+16 * k+200<_;lia,r.gd⟩
theorem jd.depth {k:Nat}{A:Around}(r:jd k A):A.depth<recursionLimit:=by have:=r.dp;lia
theorem jd.units {k:Nat}{A:Around}(r:jd k A):A.units+64<cLine:=by have:=r.un;lia
def Su:TA:=λ_ H Q=>Q [] H
def Xu (t:TE)(tr:TA):TA:=λa H Q=>t a H λx b=>tr a b λX h=>Q (x::X) h
section
variable {X:Cx}{te:TE}{t:TA}
def j3:PA X [] Su:=λ_ _ _ _ H Q I h=>Calls.spliced_nil ⟨[],H,I,.nil,h⟩
def jk (f:PE X e te)(d:PA X es t)(c:starEach (e::es) X.env=(false,eval e X.env)::starEach es X.env:=by rfl):PA X (e::es) (Xu te t):=by intro P p s l H Q I h;rw[c];show wpAny _ _ (spliced ((false,eval e X.env)::backTo P (starEach es X.env))) _ _ s;refine Calls.spliced_cons (zQ (f p s l H _ I h) λu S ⟨x,o,g,a,b⟩=>?_);exact zQ (d P p S l o _ g b) λU v ⟨n,j,i,r,q⟩=>⟨x::n,j,i,.cons a r,q⟩
def dR (t:TA):TE:=λa H Q=>t a H λx h=>x.length<=sizeLine/\∀p,h p=none->Q (.ref p) (upd h p (.tup x))
def dS (t:TA):TE:=λa H Q=>t a H λx h=>x.length<=sizeLine/\∀p,h p=none->Q (.ref p) (upd h p (.lst x))
def Mn {x1}(h:PA X es t):PE X (.Tuple es x1 o7) (dR t):=by
 intro p s d H Q I a;refine wpAny_Tuple_spliced (zQ (h o7 p s d H _ I a) λU S ⟨x,c,i,r,z,q⟩=>⟨by rw[<- r.length];exact z,?_⟩)
 have f:c S.heap.objs.size=none:=i.hok.fresh (ao _);refine⟨.ref S.heap.objs.size,upd c S.heap.objs.size (.tup x),i.laid (t':=S.toks) (λb u e=>af _ e) (ao _) ?_,rfl,q _ f⟩;exact⟨z,U,r,⟨_,aC _ rfl,⟨rfl,rfl⟩,_,rfl⟩⟩
def dU (h:PA X es t):PE X (.List es o7) (dS t):=by
 intro p s d H Q I a;refine wpAny_List_spliced (zQ (h o7 p s d H _ I a) λU S ⟨x,c,i,r,z,q⟩=>⟨by rw[<- r.length];exact z,?_⟩)
 have f:c S.heap.objs.size=none:=i.hok.fresh (ao _);refine⟨.ref S.heap.objs.size,upd c S.heap.objs.size (.lst x),i.laid (t':=S.toks) (λb u e=>af _ e) (ao _) ?_,rfl,q _ f⟩;exact⟨z,U,0,r,aC _ rfl⟩
end
abbrev Sp:=List V->Hp->VK->XK->Prop
abbrev Zb:=List Env->Hp->Shared->XK->Value->Shared->Prop
structure JC (P:Program)(w:World)(K:Frag)(mg:bX)(base:Heap)(A:Around)(outer:bY)(s:Shared)(H:Hp):Prop where
 frames:A.frames=some outer
 mod:Mod K mg base
 bs:∀b o,base.get? b=some o->s.heap.get? b=some o/\H b=none
 bsz:base.objs.size<=s.heap.objs.size
 funs:s.heap.FunFrames base outer
 frf:∀b∈qE outer,H b=none
 hok:jf P w H s.heap
 bare:AllBare s.gens
inductive CE (outer:bY)(P:Program)(w:World)(H:Hp)(s:Shared)(Q:VK)(u:Value)(s':Shared):Prop
 |mk (v:V) (H':Hp) (os:s'.os=s.os) (b:AllBare s'.gens) (un:Un (qE outer) [] H H' s.heap s'.heap) (hk:jf P w H' s'.heap) (r:RelV v u) (q:Q v H')
def CR (C:Zb)(o:bY)(P:Program)(w:World)(H:Hp)(s:Shared)(Q:VK)(E:XK)(r:Result)(S:Shared):Prop:=
 match r with|.ok (.ret u)=>CE o P w H s Q u S|.ok _=>False|.error e=>C o H s E e S
structure yh (P:Program)(w:World)(K:Frag)(mg:bX)(base:Heap)(CX:Zb)(k:Nat)(f:Addr)(fd:FuncData)(ps:bU)(sp:Sp):Prop where
 len:∀vs H Q E,sp vs H Q E->vs.length=ps.length
 run:∀(A:Around)(outer:bY)(s:Shared)(H:Hp)(args:Args)(us:bP)(vs:List V)(Q:VK)(E:XK),jd k A->JC P w K mg base A outer s H->BindsTo s fd args (ps.zip us)->Vals vs us->sp vs H Q E->
  codeAny (model P w) A (.call (.ref f) args) (CR CX outer P w H s Q E) s
theorem yh.mono {K:Frag}{C:Zb}{j k:Nat}{ps:bU}{S:Sp}(F:yh P w K mg base C j f fd ps S)(h:j<=k):
  yh P w K mg base C k f fd ps S:=⟨F.len,λA o s H a u v Q E r=>F.run A o s H a u v Q E (r.mono h)⟩
def yh.imp {K:Frag}{C:Zb}{k:Nat}{ps:bU}{p S:Sp}(F:yh P w K mg base C k f fd ps p)
  (h:∀vs H Q E,S vs H Q E->p vs H Q E):yh P w K mg base C k f fd ps S:=
 ⟨λvs H Q E q=>F.len vs H Q E (h _ _ _ _ q),λA o s H c u vs Q E r e b v a=>F.run A o s H c u vs Q E r e b v (h _ _ _ _ a)⟩
section
variable {X:Cx}{σ:St}{H:Hp}{s:Shared}
def Inv.env0 (I:Inv X o6 σ H s):JC X.prog X.w X.K X.mg X.base X.A X.stack s H:=
 ⟨I.ok.frames,I.ok.mod,I.bs,a4 I.ok.bsz I.sz,I.stack,I.stkFree,I.hok,I.bare⟩
def Inv.after {Q:VK}(I:Inv X o6 σ H s)(h:CE X.stack X.prog X.w H s Q u s'):EP X o6 σ Q u s':=by obtain⟨v,c,f,B,un,e,r,q⟩:=h;obtain⟨a,g,d,t,o⟩:=s';obtain rfl:o=s.os:=f;exact⟨v,c,I.call (h':=a) (g':=g) (d':=d) (t':=t) (ch:=[]) un e B (λb z=>absurd z (by simp)),r,q⟩
end
def dV (S:Sp)(d:List V)(E:XK)(t:TA):TE:=λa H Q=>t a H λv h=>S (v++d) h Q E
def Binds (K:Frag)(f:FuncData)(ps:bU)(d:bP):Prop:=
 ∀(s:Shared)(us:bP),K.In s.heap->(us++d).length=ps.length->BindsTo s f ⟨us,[]⟩ (ps.zip (us++d))
def Binds.all {K:Frag}{ps:bU}(h:∀us:bP,us.length=ps.length->bindArgs fd ⟨us,[]⟩=pure (ps.zip us)):Binds K fd ps []:=λs us _ H=>by rw[aX]at H ⊢;exact .of_eq (h us H)
def Passes (C:Zb)(X:Cx)(E:XK):Prop:=∀(o6:bR)(σ:St)(H:Hp)(s:Shared)(e:Value)(s':Shared),Inv X o6 σ H s->C X.stack H s E e s'->X.xe e s'
section
variable {X:Cx}{CX:Zb}{k:Nat}{ps:bU}{sp:Sp}{dvs:List V}{ds:bP}{E:XK}{t:TA}
def dW {d:St}{H:Hp}{s:Shared}{Q:VK}{v:List V}(F:yh X.prog X.w X.K X.mg X.base CX k f fd ps sp)(b:jd k X.A)(c:Binds X.K fd ps ds)(g:Vals dvs ds)(x:Passes CX X E)
  (I:Inv X o6 d H s)(r:Vals v us)(h:sp (v++dvs) H Q E):wpAny (model X.prog X.w) X.A (call (.ref f) us) (EP X o6 d Q) X.xe s:=by
 have a:Vals (v++dvs) (us++ds):=r.append g;have l:(us++ds).length=ps.length:=by rw[<- a.length];exact F.len _ _ _ _ h
 refine wpAny_call (codeAny_mono (F.run X.A X.stack s H ⟨us,[]⟩ (us++ds) (v++dvs) Q E b I.env0 (c s us I.kIn l) a h) λr S q=>?_);cases r with
 |error e=>exact x o6 d H s e S I q|ok fl=>
  cases fl with|ret u=>exact I.after q|next=>exact False.elim q|brk=>exact False.elim q|cont=>exact False.elim q
def O5 (F:yh X.prog X.w X.K X.mg X.base CX k f fd ps sp)(c:jd k X.A)(g:Gl X x)(u:X.mg x=some (.ref f))(d:keepIn X.K (.ref f)=true)(j:Binds X.K fd ps ds)(y:Vals dvs ds)(a:Passes CX X E)
  (n:PA X (e::es) t)(b:(x==("__debug__":Str))=false:=by decide)(v:starEach (e::es) X.env=(false,eval e X.env)::starEach es X.env:=by rfl)(l:(backTo o7 (starEach es X.env)).any (·.1)=false:=by rfl):
  PE X (.Call (.Name x p) (e::es) [] o7) (dV sp dvs E t):=by
 intro P s o H Q I h;refine wpAny_Call_Name_kw (Yo I g u ?_ b);refine callWith_K (h₀:=X.base) I.ok.mod.kin d (zQ (n o7 P s o H _ I h) λU S ⟨z,B,i,r,q⟩=>⟨i.kIn,?_⟩) v l;exact dW F c j y a i r q
end
structure kO (N P:bU)(sc:Scope):Prop where
 kind:sc.kind=.function
 co:sc.isCoroutine=false
 gen:sc.isGenerator=false
 nd:N.Nodup
 pre:N.take P.length=P
 par:∀x∈P,sc.names.lookup x=some .local∨sc.names.lookup x=some .cell
 nofree:∀y∈sc.names,y.2≠.free
theorem Od {K:Str->Option NameKind}:∀{binds:List (Str×Value)}{m:bX},(∀v,(x,v)∉binds)->bindL K binds m x=m x
 |[],_,_=>rfl|(n,v)::r,m,h=>by
  unfold bindL;rw[Od λw H=>h w (aA _ H)]
  split
  ·have:x≠n:=by rintro rfl;exact h v aF
   simp[this]
  ·rfl
theorem P5 {K:Str->Option NameKind}:∀{binds:List (Str×Value)}{m:bX},(∀v,(x,v)∉binds)->bindC K binds m x=m x
 |[],_,_=>rfl|(n,v)::r,m,h=>by
  unfold bindC;rw[P5 λw H=>h w (aA _ H)]
  split
  ·rfl
  ·have:x≠n:=by rintro rfl;exact h v aF
   simp[this]
theorem PM {K:Str->Option NameKind}{v:Value}:∀{P:bU}{b:bP}{i:Nat}{m:bX},P.Nodup->P[i]? =some x->b[i]? =some v->K x=some .local->
  bindL K (P.zip b) m x=some v
 |[],_,_,_,_,h,_,_=>by simp at h|_::_,[],_,_,_,_,h,_=>by simp at h|p::P,w::b,0,m,nd,h1,h2,H=>by simp at h1 h2;subst h1;subst h2;show bindL K ((p,w)::P.zip b) m p=_;unfold bindL;rw[Od λv a=>(List.nodup_cons.mp nd).1 (of_mem_zip a).1,ai H];simp
 |p::P,w::b,i+1,m,nd,h1,h2,H=>by show bindL K ((p,w)::P.zip b) m x=_;unfold bindL;exact PM (i:=i) (List.nodup_cons.mp nd).2 (by simpa using h1) (by simpa using h2) H
theorem P7 {K:Str->Option NameKind}{v:Value}:∀{P:bU}{b:bP}{i:Nat}{m:bX},P.Nodup->P[i]? =some x->b[i]? =some v->K x≠some .local->
  bindC K (P.zip b) m x=some v
 |[],_,_,_,_,h,_,_=>by simp at h|_::_,[],_,_,_,_,h,_=>by simp at h|p::P,w::b,0,m,nd,h1,h2,H=>by simp at h1 h2;subst h1;subst h2;show bindC K ((p,w)::P.zip b) m p=_;unfold bindC;rw[P5 λv a=>(List.nodup_cons.mp nd).1 (of_mem_zip a).1,aj H];simp
 |p::P,w::b,i+1,m,nd,h1,h2,H=>by show bindC K ((p,w)::P.zip b) m x=_;unfold bindC;exact P7 (i:=i) (List.nodup_cons.mp nd).2 (by simpa using h1) (by simpa using h2) H
noncomputable def start (N:bU)(v:List V):St:=v.map some++List.replicate (N.length-v.length) none
noncomputable def yO (C:Zb)(P:Program)(w:World)(K:Frag)(M:bX)(b:Heap)(N:bU)(qual:Str)(scope:Scope)(f:Addr)(c:Value)(A:Around)(o:bY)(s:Shared)(H:Hp)(E:XK):Cx where
 prog:=P
 w:=w
 K:=K
 mg:=M
 base:=b
 A:=A.deeper (envOfC qual scope s.heap.objs.size f c)
 N:=N
 s0:=s
 H0:=H
 env:=envOfC qual scope s.heap.objs.size f c
 outer:=o
 stack:=envOfC qual scope s.heap.objs.size f c::o
 ex:=[]
 calm:=true
 fn:=λ_=>true
 pn:=[]
 xe:=λe d=>wpAny (model P w) (A.deeper (envOfC qual scope s.heap.objs.size f c)) (leaving (envOfC qual scope s.heap.objs.size f c) e) (λ_ S=>C o H s E e S) (λa S=>C o H s E a S) d
def Oi (h:sc.names.lookup x=some .cell):∃c,(cellsFrom n sc.names []).lookup x=some c:=by have q:=cellsFrom_some sc.names n [] (.inl h);exact Option.isSome_iff_exists.mp q
def DA {X:Zb}{K:Frag}{ps:bU}{cd:Value}{A:Around}{Q:bY}{s s1:Shared}{H:Hp}{E:XK}{Y:List V}
  (S:kO N ps scope)(hd:A.handled=none)(d:JC P w K mg base A Q s H)(L:Y.length=ps.length)(r:Vals Y us)
  (x:InCallC s s.heap.objs.size (bindL (envOfC qual scope s.heap.objs.size f cd).kindOf (ps.zip us) λ_=>none) (cellsFrom (s.heap.objs.size+1) scope.names []) (bindC (envOfC qual scope s.heap.objs.size f cd).kindOf (ps.zip us) λ_=>none) s1):
  Inv (yO X P w K mg base N qual scope f cd A Q s H E) [] (start N Y) H s1:=by
 have I:ps.length<=N.length:=by have:=congrArg List.length S.pre;rw[bx]at this;lia
 obtain⟨Z,T,rfl,C⟩:=x.done;have g:∀b:Addr,b∉(yO X P w K mg base N qual scope f cd A Q s H E).ex:=λb z=>absurd (show b∈([]:bQ) from z) (by simp)
 refine⟨⟨d.mod,S.kind,rfl,rfl,ao _,λy z c Z U=>?_,λy j=>?_,λy c _ h=>?_,λ_=>hd,Around.frames_deeper d.frames,.inr ⟨rfl,rfl⟩,λb z=>absurd z (g b),d.bs,d.bsz,λb _ _=>g b,λb z=>absurd z (g b),d.funs,d.frf⟩,
  rfl,d.bare,Un.kept C,⟨_,x.toInCall.ns,λi y v Z U M=>?_⟩,λy c h=>⟨_,x.cell y c h⟩,d.hok.fresh (ao _),λy c h=>?_,λp o=>absurd (show p∈([]:bR) from o) (by simp),d.hok.kept C,?_⟩
 ·exact name_of_addr x.apart (PySem.mem_of_lookup Z) (PySem.mem_of_lookup U)
 ·have j:scope.names.lookup y=some .cell∨scope.names.lookup y=some .free:=j
  rcases j with j|j
  ·exact Oi j
  ·exact absurd rfl (S.nofree _ (PySem.mem_of_lookup j))
 ·exact bJ (x.above y c (PySem.mem_of_lookup h))
 ·have t:i<Y.length:=by
   unfold start at U
   by_cases t:i<Y.length
   ·exact t
   ·rw[ar (by simpa using t)]at U
    rw[bf]at U
    split at U<;>cases U
  have J:Y[i]? =some v:=by
   unfold start at U;rw[ah (by simpa using t),av]at U
   cases e:Y[i]? with|none=>rw[e]at U;cases U|some a=>rw[e]at U;cases U;rfl
  obtain⟨u,B,D⟩:=r.get J;have o:ps[i]? =some y:=by rw[<- S.pre,List.getElem?_take_of_lt (by lia)];exact Z
  have l:ps.Nodup:=by rw[<- S.pre];exact S.nd.sublist (List.take_sublist _ _)
  refine⟨u,D,?_⟩;rcases S.par y (aV o) with k|k
  ·exact .inl ⟨k,PM l o B k⟩
  ·obtain⟨c,e⟩:=Oi (n:=s.heap.objs.size+1) k
   refine .inr ⟨.inl k,c,e,?_⟩;have q:=x.cell y c e;rw[P7 l o B (by show scope.names.lookup y≠_;rw[k];decide)]at q
   exact q
 ·exact d.hok.fresh (bJ (x.above y c (PySem.mem_of_lookup h)))
 ·unfold start
  show _=N.length;rw[ay,ag,bq];lia
def Sg {C:Zb}{K:Frag}{k:Nat}{name:Str}{params:Arguments}{D kV doc pm c ct M:Value}{an L:b8}
  {ps:bU}{sp:Sp}(lk:K.lookup f=some ⟨M,L,.func (fnOf name qual params body scope D kV doc pm an c ct),oX⟩)(B:codeIn K c qual=true)(S:kO N ps scope)
  (len:∀vs H Q E,sp vs H Q E->vs.length=ps.length)
  (g:∀(A:Around)(outer:bY)(s:Shared)(H:Hp)(vs:List V)(Q:VK)(E:XK),jd k (A.deeper (envOfC qual scope s.heap.objs.size f c))->sp vs H Q E->
   ∃t,yJ (yO C P w K mg base N qual scope f c A outer s H E) body t/\t { nx:=λ_ h=>Q .non h,rt:=Q } (start N vs) H):
  yh P w K mg base C (k+1) f (fnOf name qual params body scope D kV doc pm an c ct) ps sp:=by
 refine⟨len,λA outer s H args us vs Q E z j Z r p=>?_⟩;have Y:=len _ _ _ _ p;have X:K.In s.heap:=j.mod.kin.keeps λb o e=>(j.bs b o e).1;have lim:s.heap.NoLimit:=j.mod.nolimit.keeps λb o e=>(j.bs b o e).1;have d:∀y∈ps.zip us,scope.names.lookup y.1=some .local∨(scope.names.lookup y.1=some .cell/\((cellsFrom (s.heap.objs.size+1) scope.names []).lookup y.1).isSome=true):=λ⟨n,v⟩ T=>by
  rcases S.par n (of_mem_zip T).1 with q|q
  ·exact .inl q
  ·exact .inr ⟨q,cellsFrom_some _ _ _ (.inl q)⟩
 refine codeAny_call_function z.depth (X _ _ lk) rfl S.co S.gen rfl (PySem.W.codeRec_of X B) (Z _ _ _ _ ?_);refine wpAny_newFunctionEnv_cells S.kind d λenv he s1 x=>?_;subst he;refine⟨lim.keeps x.toInCall.keep,codeAny_func ?_⟩;obtain⟨t,ht,U⟩:=g A outer s H vs Q E (z.deeper _) p;have I:Inv (yO C P w K mg base N qual scope f c A outer s H E) [] (start N vs) H s1:=DA S z.hd j Y r x;refine wpAny_mono (ht [] s1 (start N vs) H _ I U) (λfl s' i=>?_) λe s' i=>i;have fin:∀{a:St}{h:Hp}{v:V}{u:Value},Inv (yO C P w K mg base N qual scope f c A outer s H E) [] a h s'->RelV v u->Q v h->CE outer P w H s Q u s':=
  λ {a h v u} J l q=>⟨v,h,J.os,J.bare,J.base,J.hok,l,q⟩
 cases fl with
 |ret u=>
  obtain⟨v,a,h,J,l,q⟩:=i;exact fin J l q
 |next=>
  obtain⟨a,h,J,q⟩:=i;exact fin (v:=V.non) (u:=Value.none) J rfl q
 |brk=>
  obtain⟨_,_,_,q⟩:=i;exact False.elim q
 |cont=>
  obtain⟨_,_,_,q⟩:=i;exact False.elim q
section
variable {X:Cx}{t:TA}{id T:String}{r:List V->Hp->VK->Prop}
def Vg (r:List V->Hp->VK->Prop)(t:TA):TE:=λa H Q=>t a H λv h=>r v h Q
def Z3 (c:j9 X (.builtin id) r)(g:Gl X x)(o:X.mg x=none)(v:bootBuiltins x=some (.builtin id))(d:PA X (e::es) t)(n:x ≠ "__name__":=by decide)(b:(x==("__debug__":Str))=false:=by decide)
  (w:starEach (e::es) X.env=(false,eval e X.env)::starEach es X.env:=by rfl)(l:(backTo o7 (starEach es X.env)).any (·.1)=false:=by rfl):PE X (.Call (.Name x p) (e::es) [] o7) (Vg r t):=by
 intro P s f H Q I h;refine wpAny_Call_Name_kw (Qc I g o v ?_ n b);exact PyProof.Rows.callWith_builtin1 (zQ (d o7 P s f H _ I h) λu S ⟨j,y,i,a,q⟩=>c P S f y j u Q i a q) w l
def Kk (c:j9 X (.type T) r)(g:Gl X x)(o:X.mg x=none)(v:bootBuiltins x=some (.type T))(d:PA X (e::es) t)(n:x ≠ "__name__":=by decide)(b:(x==("__debug__":Str))=false:=by decide)
  (w:starEach (e::es) X.env=(false,eval e X.env)::starEach es X.env:=by rfl)(l:(backTo o7 (starEach es X.env)).any (·.1)=false:=by rfl):PE X (.Call (.Name x p) (e::es) [] o7) (Vg r t):=by
 intro P s f H Q I h;refine wpAny_Call_Name_kw (Qc I g o v ?_ n b);exact PyProof.Rows.callWith_type1 (zQ (d o7 P s f H _ I h) λu S ⟨j,y,i,a,q⟩=>c P S f y j u Q i a q) w l
end
end L2
variable {X:L2.Cx}{o:L2.HO}{H:L2.Hp}{kvs:List (L2.Key×L2.V)}{vs xs ys:List L2.V}{r:List L2.V->L2.Hp->L2.VK->Prop}{PK:PySem.Obj->PySem.Addr->PySem.Obj->List L2.V->Prop}{σ:L2.St}{v:L2.V}
namespace HT
open PySem PyProof.Rows
section
open PySem.SeqAt
open PySem.AutoSeq1 (wpAny_loadPart')
open PySem.MeetsSeq PySem.MeetsSeq2 PySem.MeetsSeq3
end
section
variable {prog:Program}{A:Around}{s:Shared}
def zaD {t:Addr}{g f:bP}(r:IsTup s.heap t g.toArray)(a:IsTup s.heap b f.toArray)(v:g≠[])
  (x:f=[]->Q (.ref t) s)(u:f≠[]->Q (.ref s.heap.objs.size) { s with heap:=s.heap.push { cls:=.type "tuple",data:=.seq (g++f).toArray } })
  (z:g.length+f.length<=sizeLine):wpAny (model prog w) A (binaryOp .Add (.ref t) (.ref b)) Q E s:=by
 obtain⟨⟨y,q,data,l⟩,o,c,n,p⟩:=id r;obtain⟨⟨C,d,D,S⟩,h,H,N,i⟩:=id a;simp only at c p H i;subst c p H i;have e:g.toArray++f.toArray=(g++f).toArray:=by simp
 by_cases j:f=[]
 ·exact concat_meets ⟨_,o,rfl⟩ ⟨_,h,rfl⟩ noFill_tuple_add seq_tuple_add slot_tuple_add entry_tuple_add (args_tuple_add_2 _ _)
   (tuple_addW1 t b g.toArray f.toArray n N q d l S (by simpa using v) (by simp[j])) ⟨o,h,x j⟩
 ·refine concat_meets ⟨_,o,rfl⟩ ⟨_,h,rfl⟩ noFill_tuple_add seq_tuple_add slot_tuple_add entry_tuple_add (args_tuple_add_2 _ _)
   (tuple_addW2 t b g.toArray f.toArray n N q d l S (by simpa using v) (by simpa using j) (by rw[aD,aD];exact z)) ⟨o,h,?_⟩
  rw[e];exact u j
noncomputable def yQ (n d:Nat):Option Int->Nat
 |none=>d|some v=>if v<0 then(v+(n:Int)).toNat else min v.toNat n
def Cq (n d:Nat):yQ n d none=d:=rfl
def zaK (n d k:Nat):yQ n d (some (k:Int))=min k n:=by
 show(if (k:Int)<0 then((k:Int)+(n:Int)).toNat else min (k:Int).toNat n)=min k n;rw[aj (by lia),aB]
end
end HT
namespace L2
open PySem PySem.Spec PyProof.Rows
abbrev TO:=St->Hp->(Option Int->Hp->Prop)->Prop
def PO (X:Cx)(e:Option Expr)(t:TO):Prop:=
 ∀(o6:bR)(s:Shared)(σ:St)(H:Hp)(Q:Option Int->Hp->Prop),Inv X o6 σ H s->t σ H Q->
  wpAny (model X.prog X.w) X.A (evalPart e X.env) (λu S=>∃o h,Inv X o6 σ h S/\IsPart u o/\Q o h) X.xe s
def dX:TO:=λ_ H Q=>Q none H
def dY (t:TE):TO:=λa H Q=>t a H λx h=>∃i,x=.int i/\Q (some i) h
section
variable {te:TE}{lo hi:Option Expr}{tl th:TO}{p2:Pos}
def dZ:PO X none dX:=by intro p s a H Q I h;rw[evalPart_none];exact cg ⟨none,H,I,.none,h⟩
def B8 (h:PE X e te):PO X (some e) (dY te):=by intro p s c H Q I w;rw[evalPart_some];refine zQ (h p s c H _ I w) λu S ⟨x,d,b,r,a⟩=>?_;obtain⟨i,rfl,q⟩:=a;obtain⟨t,rfl⟩:=r;exact⟨some i,d,b,.int i t,q⟩
def Ih (X:Cx)(r:V->Option Int->Option Int->Hp->VK->Prop):Prop:=
 ∀(o6:bR)(s:Shared)(σ:St)(H:Hp)(x:V)(v l u:Value)(lo hi:Option Int)(S:Addr)(Q:VK),Inv X o6 σ H s->RelV x v->s.heap.IsSliceOf S l u .none->IsPart l lo->IsPart u hi->r x lo hi H Q->
  ∃T id,typeLookup (.type T) "__getitem__"=pure (some (.builtin id))/\s.TypeIs v T/\wpAny (model X.prog X.w) X.A (getItem v (.ref S)) (EP X o6 σ Q) X.xe s
def d0 (r:V->Option Int->Option Int->Hp->VK->Prop)(T:TE)(t c:TO):TE:=λb H Q=>T b H λx d=>t b d λl a=>c b a λu h=>r x l u h Q
def BA {r:V->Option Int->Option Int->Hp->VK->Prop}(o:Ih X r)(U:PE X e te)(t:PO X lo tl)(n:PO X hi th):PE X (.Subscript e (.Slice lo hi none p2) o7) (d0 r te tl th):=by
 intro P s J H Q I h;refine Subscript_ (zQ (U P s J H _ I h) λv L ⟨x,Y,D,f,j⟩=>?_);refine wpAny_Slice (zQ (t P L J Y _ D j) λc K ⟨l,E,C,p,i⟩=>zQ (n P K J E _ C i) λa S ⟨u,d,B,M,g⟩=>?_);rw[evalPart_none];refine cg ?_;have z:Inv X P J d { S with heap:=S.heap.push { cls:=.type "slice",data:=.fields #[c,a,.none] } }:=B.kept (t':=S.toks) λb ob q=>af _ q
 obtain⟨T,id,hT,N,y⟩:=o P { S with heap:=S.heap.push { cls:=.type "slice",data:=.fields #[c,a,.none] } } J d x v c a l u S.heap.objs.size Q z f (Heap.IsSliceOf.new ..) p M g
 show wpAny (model X.prog X.w) X.A (subscriptTail e (.Slice lo hi none p2) v (.ref S.heap.objs.size)) (EP X P J Q) X.xe { S with heap:=S.heap.push { cls:=.type "slice",data:=.fields #[c,a,.none] } }
 exact tail_any (ops:=[.ref S.heap.objs.size,v]) N hT y (by with_unfolding_all rfl)
def YT (x:List V)(l h:Option Int):List V:=(x.drop (HT.yQ x.length 0 l)).take (HT.yQ x.length x.length h-HT.yQ x.length 0 l)
def Eh (x:List V)(l h:Option Int):(YT x l h).length<=x.length:=by unfold YT;rw[bx,length_drop];lia
def MW (K:Frag):R2:=λx y H Q=>∃a b X Y,x=.ref a/\y=.ref b/\qA K H a X/\qA K H b Y/\X≠[]/\X.length+Y.length<=sizeLine/\
 (Y=[]->Q (.ref a) H)/\(Y≠[]->∀p,H p=none->Q (.ref p) (upd H p (.tup (X++Y))))
def Vals.nil_iff (r:Vals xs us):us=[]↔xs=[]:=by
 cases r with|nil=>simp|cons _ _=>simp
def AM:qM X (binaryOp .Add) (MW X.K):=by
 intro t s B H x y v u Q I rx ry h;obtain⟨a,b,A,Y,rfl,rfl,n,l,j,d,f,e⟩:=h;cases rx;cases ry;obtain⟨g,c,P,_⟩:=I.tuple n;obtain⟨i,r,p,_⟩:=I.tuple l;refine HT.zaD P p (λz=>j (c.nil_iff.mp z)) (λz=>⟨.ref a,H,I,rfl,f (r.nil_iff.mp z)⟩) (λz=>?_) (by rw[<- c.length,<- r.length];exact d)
 refine⟨.ref s.heap.objs.size,_,I.laid (t':=s.toks) (o:=.tup (A++Y)) (λb ob q=>af _ q) (ao _) ?_,rfl,e (λw=>z (r.nil_iff.mpr w)) _ (I.hok.fresh (ao _))⟩;exact⟨by rw[ay];exact d,_,c.append r,QN.new _ _⟩
end
noncomputable def Zd (n:Nat)(i:Int):Option Nat:=if 0<=i then(if i<n then some i.toNat else none) else if -(n:Int)<=i then some (i+n).toNat else none
def gk (x:List α)(i:Int):Option α:=(Zd x.length i).bind λj=>x[j]?
def Nu {i:Int}{j:Nat}(h:Zd n i=some j):seqIndex? i n=some j/\j<n/\-(n:Int)<=i/\i<n:=by
 unfold Zd at h
 by_cases a:0<=i
 ·rw[ai a]at h
  by_cases H:i<n
  ·rw[ai H]at h
   have e:i.toNat=j:=aE h;exact⟨by rw[seqIndex_of a H,e],by lia,by lia,H⟩
  ·rw[aj H]at h;cases h
 ·rw[aj a]at h
  by_cases H:-(n:Int)<=i
  ·rw[ai H]at h
   have e:(i+n).toNat=j:=aE h;exact⟨by rw[seqIndex_neg (by lia) H,e],by lia,H,by lia⟩
  ·rw[aj H]at h;cases h
def UJ {x:List α}{i:Int}{v:α}(h:gk x i=some v):∃j,seqIndex? i x.length=some j/\x[j]? =some v/\j<x.length/\-(x.length:Int)<=i/\i<x.length:=by
 unfold gk at h;cases e:Zd x.length i with
 |none=>rw[e]at h;cases h|some j=>
  rw[e]at h;obtain⟨c,b,a,H⟩:=Nu e;exact⟨j,c,h,b,a,H⟩
def GW {x:List α}{j:Nat}{v:α}(h:x[j]? =some v):gk x (j:Int)=some v:=by
 have H:j<x.length:=(cj.mp h).1;have e:Zd x.length (j:Int)=some j:=by unfold Zd;rw[ai (by lia),ai (by lia)];simp
 unfold gk;rw[e];exact h
def NA (b:Expr):Prop:=∀o i,subscripted b false o i=operate [o,i] (getItem o i)
def Qy (X:Cx)(r:R2):Prop:=
 ∀(value slice:Expr)(o6:bR)(s:Shared)(σ:St)(H:Hp)(x y:V)(v u:Value)(Q:VK),Inv X o6 σ H s->RelV x v->RelV y u->r x y H Q->
  subscripted slice false v u=operate [v,u] (getItem v u)->wpAny (model X.prog X.w) X.A (subscriptTail value slice v u) (EP X o6 σ Q) X.xe s
def YW (X:Cx)(id:String)(r:V->List V->Hp->VK->Prop):Prop:=
 ∀(o6:bR)(s:Shared)(σ:St)(H:Hp)(x:V)(xs:List V)(v:Value)(us:bP)(Q:VK),Inv X o6 σ H s->RelV x v->Vals xs us->r x xs H Q->
  wpAny (model X.prog X.w) X.A (call (.builtin id) (v::us)) (EP X o6 σ Q) X.xe s
section
variable {a b:Expr}{ta tb:TE}
def Qy.or {r a:R2}(h:Qy X r)(d:Qy X a):Qy X (λx y H Q=>r x y H Q∨a x y H Q):=by
 intro e S p s c H x y v u Q I rx ry q b;rcases q with q|q
 ·exact h e S p s c H x y v u Q I rx ry q b
 ·exact d e S p s c H x y v u Q I rx ry q b
def d2 {r:R2}(d:Qy X r)(f:PE X a ta)(e:PE X b tb)(c:NA b):PE X (.Subscript a b o7) (WJ r ta tb):=by intro p s j H Q I h;exact Subscript_ (SR f e I h λv u S x y g i rx ry q=>d a b p S j g x y v u Q i rx ry q (c _ _))
def LD (K:Frag):R2:=λx y H Q=>∃p X i v,x=.ref p/\y=.int i/\qS K H p X/\gk X i=some v/\Q v H
def Lx (K:Frag):R2:=λx y H Q=>∃p X i v,x=.ref p/\y=.int i/\qA K H p X/\gk X i=some v/\Q v H
def Lp:R2:=λx y H Q=>∃z i c,x=.str z/\y=.int i/\z.length<=sizeLine/\gk z.cps.toList i=some c/\Q (.str ⟨#[c]⟩) H
def d4:Qy X (LD X.K):=by
 intro E S B s J H x y v u Q I rx ry h d;obtain⟨p,U,i,z,rfl,rfl,f,N,q⟩:=h;cases rx;obtain⟨t,rfl⟩:=ry;obtain⟨b,r,P,o⟩:=I.list f;obtain⟨j,D,T,A,n,g⟩:=UJ N;obtain⟨w,e,a⟩:=r.get T;have l:=r.length;have Y:=Jn;have C:EP X B J Q w s:=⟨z,H,I,a,q⟩
 by_cases L:0<=i
 ·have c:i.toNat=j:=by rw[seqIndex_of L g]at D;exact aE D
  exact item_listR P.isList L (by lia) (by rw[c];simpa using e) C d
 ·have c:(i+(b.toArray.size:Int)).toNat=j:=by
   rw[seqIndex_neg (by lia) n]at D
   rw[aD,<- l];exact aE D
  exact subscriptTail_builtinR (x:=w) P.isList.typeIs slot_list_getitem.lookup
   (wpAny_getItem_list_neg (Q:=λr M=>r=w/\EP X B J Q r M) P.isList (by lia) (by rw[aD]<;>lia) (by lia) (by rw[c];simpa using e) ⟨rfl,C⟩) d
def d6:Qy X (Lx X.K):=by
 intro B S A s D H x y v u Q I rx ry h c;obtain⟨p,N,i,z,rfl,rfl,d,J,q⟩:=h;cases rx;obtain⟨t,rfl⟩:=ry;obtain⟨b,r,P,f⟩:=I.tuple d;obtain⟨j,M,L,o,n,g⟩:=UJ J;obtain⟨w,e,a⟩:=r.get L;have l:=r.length;have T:=Jn;have C:EP X A D Q w s:=⟨z,H,I,a,q⟩;exact subscriptTail_builtinR (x:=w) P.typeIs slot_tuple_getitem.lookup
  (getItem_tuple (j:=j) (Q:=λr E=>r=w/\EP X A D Q r E) P (by lia) (by lia) (by rw[aD,<- l];exact M) (by simpa using e) ⟨rfl,C⟩) c
def d7:Qy X Lp:=by
 intro n S p s A H x y v u Q I rx ry h a;obtain⟨z,i,c,rfl,rfl,f,r,q⟩:=h;obtain⟨t,rfl⟩:=rx;obtain⟨T,rfl⟩:=ry;obtain⟨j,o,w,g,d,b⟩:=UJ r;have l:z.cps.toList.length=z.length:=by simp[Str.length]
 rw[l]at o d b;have B:=Jn;exact tail_any (typeIs_str s z t) slot_str_getitem.lookup (getItem_str (c:=c) (by
  have E:decide (i < -(2 ^ 63:Int))=false:=aG (by lia)
  have e:decide (i ≥ 2 ^ 63)=false:=aG (by lia)
  rw[E,e,Bool.or_false]) (by rw[o];simpa using w) ⟨.str ⟨#[c]⟩,H,I.tok _,⟨_,rfl⟩,q⟩) a
def LZ (K:Frag):R2:=λx y H Q=>LD K x y H Q∨Lx K x y H Q∨Lp x y H Q
def d8:Qy X (LZ X.K):=d4.or (d6.or d7)
def EU (i:bP)(n j:Nat)(u:Value):Obj.mapSeq (·.setIfInBounds j u) { cls:=.type "list",data:=.seq i.toArray n }={ cls:=.type "list",data:=.seq (i.set j u).toArray n }:=by simp[Obj.mapSeq]
theorem Inv.lst {P:bR}{a:St}{H:Hp}{s:Shared}{p:Addr}{x:List V}(I:Inv X P a H s)(h:H p=some (.lst x)):
  ∃(i:bP) (n:Nat),Vals x i/\s.heap.get? p=some { cls:=.type "list",data:=.seq i.toArray n }/\x.length<=sizeLine:=by
 obtain⟨z,i,n,r,e⟩:=I.hok p _ h;exact⟨i,n,r,e,z⟩
def Inv.lstUpd {s:Shared}{p:Addr}{i:bP}{N:Nat}{f:Obj->Obj}(I:Inv X o6 σ H s)(h:H p=some (.lst xs))
  (o:s.heap.get? p=some { cls:=.type "list",data:=.seq oI.toArray n })(c:f { cls:=.type "list",data:=.seq oI.toArray n }={ cls:=.type "list",data:=.seq i.toArray N })(r:Vals ys i)(z:ys.length<=sizeLine)(t:Nat):
  Inv X o6 σ (upd H p (.lst ys)) { s with heap:=s.heap.update p f,toks:=t }:=by
 have e:(s.heap.update p f).get? p=some { cls:=.type "list",data:=.seq i.toArray N }:=by rw[Heap.get?_update_self f o (by rw[c]<;>rfl),c]
 refine I.write (x:=p) (e:=p) (by rw[h];trivial) (.inl rfl) (λb u a q=>(br _ _ (Ne.symm a)).trans q) ⟨_,e⟩ ?_
 exact⟨z,i,N,r,e⟩
def MJ:V->V->V->Hp->(Hp->Prop)->Prop:=λo i v H Q=>∃p x k j,o=.ref p/\i=.int k/\H p=some (.lst x)/\Zd x.length k=some j/\Q (upd H p (.lst (x.set j v)))
def set_list:XO X MJ:=by
 intro P s E H o i v A B u Q I ro x w h;obtain⟨p,J,k,j,rfl,rfl,d,y,q⟩:=h;cases ro;obtain⟨t,rfl⟩:=x;obtain⟨a,n,r,b,z⟩:=I.lst d;obtain⟨C,L,f,e⟩:=Nu y;have l:=r.length;have K:=Jn;have g:Inv X P E (upd H p (.lst (J.set j v))) { s with heap:=s.heap.update p (Obj.mapSeq (·.setIfInBounds j u)) }:=
  I.lstUpd d b (EU a n j u) (r.set w j) (by rw[bD];exact z) s.toks
 by_cases D:0<=k
 ·have c:k.toNat=j:=by rw[seqIndex_of D e]at C;exact aE C
  exact PySem.W.ki_setAt b D (by lia) (by rw[aD,<- l];exact e) (by rw[c];exact⟨_,g,q⟩)
 ·have c:(k+(a.toArray.size:Int)).toNat=j:=by
   rw[seqIndex_neg (by lia) f]at C
   rw[aD,<- l];exact aE C
  exact PySem.W.ki_setBack b (by lia) (by rw[aD,<- l];exact f) (by lia) (by rw[c];exact⟨_,g,q⟩)
def F6 (l H:Option Int)(n:Nat):(sliceBounds l H none n).1=((HT.yQ n 0 l:Nat):Int)/\(sliceBounds l H none n).2.1=((HT.yQ n n H:Nat):Int)/\(sliceBounds l H none n).2.2=1:=by
 refine⟨?_,?_,rfl⟩
 ·cases l with
  |none=>simp[sliceBounds,HT.yQ]|some i=>
   simp only[sliceBounds,HT.yQ,getD_none,show(1:Int) > 0 by decide,if_true]
   by_cases h:i<0
   ·simp only[h,if_true]<;>lia
   ·simp only[h,if_false]<;>lia
 ·cases H with
  |none=>simp[sliceBounds,HT.yQ]|some i=>
   simp only[sliceBounds,HT.yQ,getD_none,show(1:Int) > 0 by decide,if_true]
   by_cases h:i<0
   ·simp only[h,if_true]<;>lia
   ·simp only[h,if_false]<;>lia
def HB (i:bP)(l h:Option Int):slicePick i.toArray l h none=((i.drop (HT.yQ i.length 0 l)).take (HT.yQ i.length i.length h-HT.yQ i.length 0 l)).toArray:=by obtain⟨b,a,H⟩:=F6 l h i.toArray.size;unfold slicePick;rw[b,a,H];simp only[sliceRange_one,pick_run,aD]<;>rfl
def d9 (K:Frag):V->Option Int->Option Int->Hp->VK->Prop:=λx l h H Q=>∃a X,x=.ref a/\qS K H a X/\∀p,H p=none->Q (.ref p) (upd H p (.lst (YT X l h)))
def AK:Ih X (d9 X.K):=by
 intro P s j H x v l u L i S Q I rx e p g h;obtain⟨a,f,rfl,d,q⟩:=h;cases rx;obtain⟨c,r,t,z⟩:=I.list d;have n:=r.length;refine⟨"list",_,slot_list_getitem.lookup,t.isList.typeIs,?_⟩;refine wpAny_getItem_list_slice t.isList e p g .none (by simp) ?_ (by rw[aD]<;>lia)
 rw[HB,<- n];refine⟨.ref s.heap.objs.size,_,I.laid (t':=s.toks) (o:=.lst (YT f L i)) (λb ob q=>af _ q) (ao _) ?_,rfl,q _ (I.hok.fresh (ao _))⟩;exact⟨a4 (Eh f L i) z,_,0,(r.drop (HT.yQ f.length 0 L)).take (HT.yQ f.length f.length i-HT.yQ f.length 0 L),aC _ rfl⟩
noncomputable def we:V->Bool
 |.non=>true|.bl _=>true|.int _=>true|.str _=>true|_=>false
noncomputable def gI:V->V->Bool
 |.non,.non=>true|.bl a,.bl b=>a==b|.bl a,.int b=>(if a then 1 else 0)==b|.int a,.bl b=>a==(if b then 1 else 0)|.int a,.int b=>a==b|.str a,.str b=>a==b|_,_=>false
def eb {A:Around}{s:Shared}{y x:V}{v:Value}(ry:RelV y u)(rx:RelV x v)(c:we y=true)(f:we x=true):SeqAt.EqAt A s u v (gI y x):=by
 cases y with
 |non=>
  cases ry;cases x with|non=>cases rx;exact SeqAt.EqAt.same _|bl b=>cases rx;exact SeqAt.EqAt.none_bool b|int b=>obtain⟨t,rfl⟩:=rx;exact SeqAt.EqAt.none_int b t|str b=>obtain⟨t,rfl⟩:=rx;exact SeqAt.EqAt.none_str b t|_=>exact absurd (show false=true from f) aH
 |bl a=>
  cases ry;cases x with|non=>cases rx;exact SeqAt.EqAt.bool_none a|bl b=>cases rx;exact SeqAt.EqAt.bool_bool a b|int b=>obtain⟨t,rfl⟩:=rx;exact SeqAt.EqAt.bool_int a b t|str b=>obtain⟨t,rfl⟩:=rx;exact SeqAt.EqAt.bool_str a b t|_=>exact absurd (show false=true from f) aH
 |int a=>
  obtain⟨T,rfl⟩:=ry;cases x with|non=>cases rx;exact SeqAt.EqAt.int_none a T|bl b=>cases rx;exact SeqAt.EqAt.int_bool a T b|int b=>obtain⟨t,rfl⟩:=rx;exact SeqAt.EqAt.int_int a T b t|str b=>obtain⟨t,rfl⟩:=rx;exact SeqAt.EqAt.int_str a T b t|_=>exact absurd (show false=true from f) aH
 |str a=>
  obtain⟨T,rfl⟩:=ry;cases x with|non=>cases rx;exact SeqAt.EqAt.str_none a T|bl b=>cases rx;exact SeqAt.EqAt.str_bool a T b|int b=>obtain⟨t,rfl⟩:=rx;exact SeqAt.EqAt.str_int a T b t|str b=>obtain⟨t,rfl⟩:=rx;exact SeqAt.EqAt.str_str a T b t|_=>exact absurd (show false=true from f) aH
 |_=>exact absurd (show false=true from c) aH
def Zc (x:V)(u:Value):Bool:=match u with|.none=>gI .non x|.bool b=>gI (.bl b) x|.int i _=>gI (.int i) x|.str z _=>gI (.str z) x|_=>false
def To {x y:V}(r:RelV y u)(f:we y=true):Zc x u=gI y x:=by
 cases y with|non=>cases r;rfl|bl b=>cases r;rfl|int i=>obtain⟨t,rfl⟩:=r;rfl|str z=>obtain⟨t,rfl⟩:=r;rfl|_=>exact absurd (show false=true from f) aH
theorem UI {x:V}:∀{X:List V}{U:bP},Vals X U->X.all we=true->U.any (Zc x)=X.any λy=>gI y x
 |_,_,.nil,_=>rfl|y::X,u::U,.cons r t,f=>by rw[all_cons,ak]at f;rw[any_cons,any_cons,To r f.1,UI t f.2]
theorem Ko {A:Around}{s:Shared}{x:V}{v:Value}(rx:RelV x v)(a:we x=true):∀{X:List V}{b:bP},Vals X b->X.all we=true->∀u∈b,SeqAt.EqAt A s u v (Zc x u)
 |_,_,.nil,_=>λu h=>by cases h|y::X,u::b,.cons r t,f=>λU h=>by
  rw[all_cons,ak]at f;rcases cm.mp h with rfl|h
  ·rw[To r f.1];exact eb r rx f.1 a
  ·exact Ko rx a t f.2 U h
def Vn (x:V)(X:List V):Bool:=X.any λy=>gI y x
def LP (K:Frag)(n:Bool):R2:=λx y H Q=>∃p X,y=.ref p/\(qS K H p X∨qA K H p X)/\we x=true/\X.all we=true/\Q (.bl (if n then !Vn x X else Vn x X)) H
def Dl:qM X (compareOp .In) (LP X.K false):=by
 intro c s d H x y v u Q I rx ry h;obtain⟨p,e,rfl,a,f,fs,q⟩:=h;cases ry;rcases a with a|a
 ·obtain⟨i,r,P,z⟩:=I.list a
  refine SeqAt.in_listAt (Zc x) P.isList (λw b=>Ko rx f r fs w (by simpa using b)) ⟨.bl _,H,I,rfl,?_⟩
  rw[show i.toArray.any (Zc x)=i.any (Zc x) by simp,UI r fs]
  exact q
 ·obtain⟨i,r,P,z⟩:=I.tuple a
  refine SeqAt.in_tupleAt (Zc x) P (λw b=>Ko rx f r fs w (by simpa using b)) ⟨.bl _,H,I,rfl,?_⟩
  rw[show i.toArray.any (Zc x)=i.any (Zc x) by simp,UI r fs]
  exact q
def Fi:j9 X (.builtin "len") (λx H Q=>∃p y,x=[.ref p]/\(qS X.K H p y∨qA X.K H p y)/\Q (.int y.length) H):=by
 intro c s d H x U Q I r h;obtain⟨p,y,rfl,a,q⟩:=h;obtain⟨u,rfl,rx⟩:=vals1 r;cases rx;have e:=Jn;rcases a with a|a
 ·obtain⟨i,b,P,z⟩:=I.list a
  have n:=b.length;exact Calls.call_len_list P.isList (by simp only[aD]<;>lia) ⟨.int y.length,H,I.tok _,⟨s.toks+1,by rw[aD,n]⟩,q⟩
 ·obtain⟨i,b,P,z⟩:=I.tuple a
  have n:=b.length;exact len_tuple P (by simp only[aD]<;>lia) ⟨.int y.length,H,I.tok _,⟨s.toks+1,by rw[aD,n]⟩,q⟩
def FP:j9 X (.type "list") (λx H Q=>∃p y,x=[.ref p]/\(qS X.K H p y∨qA X.K H p y)/\∀l,H l=none->Q (.ref l) (upd H l (.lst y))):=by
 intro i s B H x U Q I r h;obtain⟨p,y,rfl,d,q⟩:=h;obtain⟨u,rfl,rx⟩:=vals1 r;cases rx;have t:∀(oI:bP),Vals y oI->y.length<=sizeLine->∀(h':Heap)(c:Nat),(∀b A,s.heap.get? b=some A->h'.get? b=some A)->
   h'.get? s.heap.objs.size=some { cls:=.type "list",dict:=none,data:=.seq oI.toArray c,slots:=#[] }->EP X i B Q (.ref s.heap.objs.size) { s with heap:=h' }:=λoI a z h' c kp e=>
  ⟨.ref s.heap.objs.size,_,I.laid (t':=s.toks) kp (ao _) (show qX X.prog X.w _ h' _ (.lst y) from ⟨z,oI,c,a,e⟩),rfl,q _ (I.hok.fresh (ao _))⟩
 rcases d with d|d
 ·obtain⟨oI,a,P,z⟩:=I.list d
  have j:=a.length;obtain⟨o,f,g,n,v⟩:=P.isList;exact call_list_seq p (.inl rfl) f g v (λh' c kp e=>t oI a z h' c kp e) (by simp only[aD]<;>lia)
 ·obtain⟨oI,a,P,z⟩:=I.tuple d
  have j:=a.length;obtain⟨o,f,g,n,v⟩:=P;exact call_list_seq p (.inr rfl) f g v (λh' c kp e=>t oI a z h' c kp e) (by simp only[aD]<;>lia)
def Fd:j9 X (.type "tuple") (λx H Q=>∃p y,x=[.ref p]/\((qS X.K H p y/\∀l,H l=none->Q (.ref l) (upd H l (.tup y)))∨(qA X.K H p y/\Q (.ref p) H))):=by
 intro g s n H x U Q I r h;obtain⟨p,y,rfl,h⟩:=h;obtain⟨u,rfl,rx⟩:=vals1 r;cases rx;rcases h with ⟨c,q⟩|⟨c,q⟩
 ·obtain⟨i,a,P,z⟩:=I.list c
  have t:=a.length;refine call_tuple_list P.isList (λj kp=>?_) (by simp only[aD]<;>lia)
  have d:Inv X g n H { s with heap:=j }:=I.kept (t':=s.toks) kp
  have f:Inv X g n (upd H j.objs.size (.tup y)) { s with heap:=j.push { cls:=.type "tuple",data:=.seq i.toArray } }:=
   d.laid (t':=s.toks) (λb o e=>af _ e) (ao _) (show qX X.prog X.w _ _ _ (.tup y) from ⟨z,i,a,QN.new _ _⟩)
  exact⟨.ref j.objs.size,_,f,rfl,q _ (d.hok.fresh (ao _))⟩
 ·obtain⟨i,a,P,z⟩:=I.tuple c
  exact call_tuple_same P ⟨.ref p,H,I,rfl,q⟩
def Vk (K:Frag)(T:String)(x:V)(H:Hp):Prop:=match x with
 |.str _=>T = "str"
 |.int _=>T = "int"
 |.ref p=>(T = "list" /\ ∃X,qS K H p X)∨(T = "tuple" /\ ∃o,K.lookup p=some o/\o.cls=.type "tuple" /\ o.dict=none)∨
   (T = "dict" /\ ((∃a,H p=some (.dK a))∨∃a,H p=some (.dT a)))∨(T = "set" /\ ∃S n,H p=some (.set S n))
 |_=>False
def ed {s:Shared}{T:String}{x:V}{v:Value}(I:Inv X o6 σ H s)(r:RelV x v)(ty:Vk X.K T x H):
  s.TypeIs v T/\∀a,v=.ref a->∃ob,s.heap.get? a=some ob/\ob.dict=none:=by
 cases x with
 |str z=>
  obtain⟨t,rfl⟩:=r;cases (show T = "str" from ty)
  exact⟨typeIs_str s z t,λ_ e=>nomatch e⟩
 |int i=>
  obtain⟨t,rfl⟩:=r;cases (show T = "int" from ty)
  exact⟨typeIs_int s i t,λ_ e=>nomatch e⟩
 |ref p=>
  cases r;rcases ty with ⟨rfl,j,q⟩|⟨rfl,o,h,d,hd⟩|⟨rfl,h⟩|⟨rfl,S,n,h⟩
  ·obtain⟨b,_,P,_⟩:=I.list q
   refine⟨P.isList.typeIs,λa e=>?_⟩;cases e;obtain⟨o,n,e,c,hd,_⟩:=P;exact⟨o,e,hd⟩
  ·refine⟨⟨o,I.kIn p o h,d⟩,λa e=>?_⟩
   cases e;exact⟨o,I.kIn _ o h,hd⟩
  ·have z:∃o,s.heap.get? p=some o/\o.ExactDict:=by
    rcases h with ⟨g,h⟩|⟨g,h⟩
    ·obtain⟨_,_,_,_,o,_,_,e,f,_⟩:=I.hok p _ h
     exact⟨o,e,f⟩
    ·obtain⟨_,_,_,_,o,_,_,e,f,_⟩:=I.hok p _ h
     exact⟨o,e,f⟩
   obtain⟨o,e,f⟩:=z;refine⟨⟨o,e,f.1⟩,λa E=>?_⟩;cases E;exact⟨o,e,f.2.1⟩
  ·obtain⟨o,_,_,_,e,f,_⟩:=I.hok p _ h
   refine⟨⟨o,e,f.1⟩,λa E=>?_⟩;cases E;exact⟨o,e,f.2.1⟩
 |_=>exact False.elim ty
def ee (K:Frag)(T:String)(r:V->List V->Hp->VK->Prop)(to:TE)(t:TA):TE:=λa H Q=>to a H λx b=>Vk K T x b/\t a b λX h=>r x X h Q
variable {o:Expr}{to:TE}{t:TA}{name:Str}{T id:String}{r:V->List V->Hp->VK->Prop}
def ML (p:PlainAttrs T)(S:Slot T name id)(y:typeOf (.builtin id)=pure (.type "method_descriptor"))(J:YW X id r)(j:PE X o to)(l:PA X (e::es) t)
  (b:attributeBase o name X.env (eval o X.env)=eval o X.env:=by rfl)
  (w:((backTo oH (starEach (e::es) X.env)).all (λx=>!x.1)&&(backToKw oH (keywordEach [] X.env)).all (λx=>x.1.isSome)
   && decide ((e::es).length+([]:b0).length+(if ([]:b0).isEmpty then 0 else 1)<30))=true:=by rfl)
  (a:(oM.endLine==oH.line)=true:=by rfl)(g:starEach (e::es) X.env=(false,eval e X.env)::starEach es X.env:=by rfl)(n:(backTo oH (starEach es X.env)).any (·.1)=false:=by rfl):
  PE X (.Call (.Attribute o name oM) (e::es) [] oH) (ee X.K T r to t):=by
 intro P s B H Q I h;refine wpAny_Call_method_late b w a rfl (zQ (j P s B H _ I h) λv E ⟨x,N,i,c,ty,f⟩=>?_);obtain⟨M,L⟩:=ed i c ty;refine⟨T,id,p,S,y,M,L,?_⟩;have A:=l oH P E B N _ i f;rw[g]at A ⊢;refine Calls.callWith_builtin (by show(false || (backTo oH (starEach es X.env)).any (·.1))=false;rw[n]<;>rfl) (Calls.evalArgs_plain ?_)
 exact zQ A λU D ⟨C,z,u,d,q⟩=>J P D B z x C v U Q u c d q
end
def S8 (X:Cx)(id:String)(r:V->List V->Hp->VK->Prop):Prop:=
 ∀(o6:bR)(s:Shared)(σ:St)(H:Hp)(x:V)(xs:List V)(v:Value)(us:bP)(Q:VK),Inv X o6 σ H s->RelV x v->Vals xs us->r x xs H Q->
  wpAny (model X.prog X.w) X.A (call (.builtin id) (v::us)) (EP X o6 σ Q) X.xe s
def Vals.one {x:V}(h:Vals [x] us):∃u,us=[u]/\RelV x u:=by
 cases h with|cons r t=>cases t;exact⟨_,rfl,r⟩
def Vals.two {x y:V}(h:Vals [x,y] us):∃u v,us=[u,v]/\RelV x u/\RelV y v:=by
 cases h with|cons r t=>exact(Vals.one t).elim λv e=>⟨_,v,by rw[e.1],r,e.2⟩
theorem Vals.zero:∀{u:bP},Vals [] u->u=[]
 |_,.nil=>rfl
theorem Vals.eraseIdx:∀{x:List V}{u:bP}(i:Nat),Vals x u->Vals (x.eraseIdx i) (u.eraseIdx i)
 |_,_,_,.nil=>.nil|_,_,0,.cons _ t=>t|_,_,i+1,.cons r t=>.cons r (Vals.eraseIdx i t)
theorem Vals.rep (h:Vals xs us):∀k:Nat,Vals (List.replicate k xs).flatten (List.replicate k us).flatten
 |0=>.nil|k+1=>by rw[ba,ba,a8,a8];exact Vals.append h (Vals.rep h k)
theorem PH:∀(l:List α)(i:Nat),(l.eraseIdx i).length<=l.length
 |[],_=>ao _|_::_,0=>Nat.le_succ _|_::r,i+1=>Nat.succ_le_succ (PH r i)
theorem foldl_rep (i:bP):∀(k:Nat)(a:bP),
  List.foldl (λx1 x2=>x1++x2) a.toArray (List.replicate k i.toArray)=(a++(List.replicate k i).flatten).toArray
 |0,a=>by simp|k+1,a=>by
  have e:a.toArray++i.toArray=(a++i).toArray:=by simp
  have E:(a++i)++(List.replicate k i).flatten=a++(List.replicate (k+1) i).flatten:=by rw[ba,a8,aR]
  rw[<- E,<- foldl_rep i k (a++i),<- e,ba,List.foldl_cons]
section
variable {s:Shared}{l:Addr}
def Inv.lset {its':bP}{f:Array Value->Array Value}(I:Inv X o6 σ H s)(c:H l=some (.lst xs))
  (e:s.heap.get? l=some { cls:=.type "list",data:=.seq oI.toArray n })(d:f oI.toArray=its'.toArray)(v:Vals ys its')(h:ys.length<=sizeLine):
  Inv X o6 σ (upd H l (.lst ys)) { s with heap:=s.heap.update l (Obj.mapSeq f),toks:=t' }:=by
 have q:=PySem.IsL.update e f;rw[d]at q;refine I.write (x:=l) (e:=l) (by rw[c];exact trivial) (.inl rfl) (λB u b a=>(br s.heap (Obj.mapSeq f) (Ne.symm b)).trans a) ⟨_,q⟩ ?_
 exact⟨h,its',_,v,q⟩
def Inv.lnew (I:Inv X o6 σ H s)(v:Vals ys oI)(h:ys.length<=sizeLine):
  Inv X o6 σ (upd H s.heap.objs.size (.lst ys)) { s with heap:=s.heap.push { cls:=.type "list",data:=.seq oI.toArray },toks:=t' }:=
 I.laid (λ_ _ q=>af _ q) (ao _) ⟨h,oI,0,v,aC _ rfl⟩
theorem Inv.fresh (I:Inv X o6 σ H s):H s.heap.objs.size=none:=I.hok.fresh (ao _)
def Inv.lstM (I:Inv X o6 σ H s)(h:H l=some (.lst xs)):xs.length<=sizeLine/\∃(i:bP) (n:Nat),Vals xs i/\xs.length=i.length/\s.heap.get? l=some { cls:=.type "list",data:=.seq i.toArray n }:=by obtain⟨z,i,n,r,e⟩:=I.hok l _ h;exact⟨z,i,n,r,r.length,e⟩
def OJ (h:n<=sizeLine):Builtin.List.listTooLong n=false:=by unfold Builtin.List.listTooLong;exact aG (by lia)
end
section
def eg:V->List V->Hp->VK->Prop:=λx v H Q=>∃l X y,x=.ref l/\v=[y]/\H l=some (.lst X)/\X.length<sizeLine/\Q .non (upd H l (.lst (X++[y])))
def Oc:S8 X "list.append" eg:=by
 intro p s g H x o v U Q I rx b h;obtain⟨l,j,y,rfl,rfl,a,d,q⟩:=h;cases rx;obtain⟨u,rfl,c⟩:=b.one;obtain⟨z,i,n,r,f,e⟩:=I.lstM a;refine call_meets F.slot_list_append ⟨_,e,rfl⟩ F.entry_list_append (F.args_list_append_2 _ _) (PySem.list_append l i.toArray n u (by rw[aD];lia)) ⟨e,?_⟩
 refine⟨.non,_,I.lset (its':=i++[u]) a e (by simp) (r.append (.cons c .nil)) ?_,rfl,q⟩
 rw[ay,aW];lia
def An:V->List V->Hp->VK->Prop:=λx v H Q=>∃l b X z,x=.ref l/\v=[.ref b]/\H l=some (.lst X)/\H b=some (.lst z)/\X.length+z.length<=sizeLine/\Q .non (upd H l (.lst (X++z)))
def D4:S8 X "list.extend" An:=by
 intro P s y H x D v U Q I rx f h;obtain⟨l,b,C,A,rfl,rfl,d,B,t,q⟩:=h;cases rx;obtain⟨u,rfl,j⟩:=f.one;cases j;obtain⟨z,a,n,r,w,e⟩:=I.lstM d;obtain⟨Z,i,N,o,p,E⟩:=I.lstM B;have c:a.toArray.size+i.toArray.size<=sizeLine:=by rw[aD,aD];lia
 have g:¬(!a.toArray.isEmpty&&Builtin.List.listTooLong (a.toArray.size+i.toArray.size))=true:=by rw[OJ c,Bool.and_false];exact aH
 refine call_meets F.slot_list_extend ⟨_,e,rfl⟩ F.entry_list_extend (F.args_list_extend_2 _ _)
  (AutoSeq1.list_extend_list_list_0 l a.toArray n b i.toArray N g (by rw[aD];lia) (by lia)) ⟨e,E,?_⟩
 refine⟨.non,_,I.lset (its':=a++i) d e (by simp) (r.append o) ?_,rfl,q⟩
 rw[ay];lia
def eh:V->List V->Hp->VK->Prop:=λx v H Q=>∃l X i k y,x=.ref l/\v=[.int i]/\H l=some (.lst X)/\-(2 ^ 63)<=i/\i<2 ^ 63/\seqIndex? i X.length=some k/\X[k]? =some y/\Q y (upd H l (.lst (X.eraseIdx k)))
def BW:S8 X "list.pop" eh:=by
 intro p s E H x J v U Q I rx d h;obtain⟨l,A,i,k,y,rfl,rfl,c,D,C,o,g,q⟩:=h;cases rx;obtain⟨u,rfl,f⟩:=d.one;obtain⟨t,rfl⟩:=f;obtain⟨z,a,n,r,j,e⟩:=I.lstM c;obtain⟨w,B,b⟩:=r.get g;refine call_meets F.slot_list_pop ⟨_,e,rfl⟩ F.entry_list_pop (F.args_list_pop_2 _ _)
  (MeetsSeq.list_pop_at l a.toArray n i t k w (fitsIndex_both D C) (by rw[aD,<- j];exact o) (by rw[<- Array.getElem?_toList];exact B) (by rw[aD];lia)) ⟨e,?_⟩
 refine⟨y,_,I.lset (its':=a.eraseIdx k) c e ?_ (r.eraseIdx k) ?_,b,q⟩
 ·show a.toArray.eraseIdxIfInBounds k=(a.eraseIdx k).toArray
  rw[List.eraseIdxIfInBounds_toArray]
 ·have:=PH A k
  lia
def Lu:R2:=λx y H Q=>∃l b X z,x=.ref l/\y=.ref b/\H l=some (.lst X)/\H b=some (.lst z)/\X.length+z.length<=sizeLine/\∀p,H p=none->Q (.ref p) (upd H p (.lst (X++z)))
def ej:qM X (binaryOp .Add) Lu:=by
 intro p s t H x y v u Q I rx ry h;obtain⟨l,b,A,w,rfl,rfl,f,B,j,q⟩:=h;cases rx;cases ry;obtain⟨z,a,n,r,o,e⟩:=I.lstM f;obtain⟨Z,i,N,c,d,g⟩:=I.lstM B;refine PySem.P.add_list e g ?_ (by rw[aD,aD];lia)
 have E:a.toArray++i.toArray=(a++i).toArray:=by simp
 rw[E];exact⟨.ref _,_,I.lnew (t':=s.toks) (r.append c) (by rw[ay];lia),rfl,q _ I.fresh⟩
def Lf:R2:=λx y H Q=>∃l k X,x=.ref l/\y=.int k/\H l=some (.lst X)/\-(2 ^ 63)<=k/\k<2 ^ 63/\X.length * k.toNat<=sizeLine/\
 ∀p,H p=none->Q (.ref p) (upd H p (.lst (List.replicate k.toNat X).flatten))
def len_rep (x:List α)(k:Nat):(List.replicate k x).flatten.length=k * x.length:=by
 induction k with|zero=>simp|succ k i=>rw[ba,a8,ay,i,succ_mul,add_comm]
def eu:qM X (binaryOp .Mult) Lf:=by
 intro P s J H x y v u Q I rx ry h;obtain⟨l,k,K,rfl,rfl,f,D,C,c,q⟩:=h;cases rx;obtain⟨t,rfl⟩:=ry;obtain⟨z,i,n,r,d,e⟩:=I.lstM f;have o:i.toArray.size * k.toNat<=sizeLine:=by rw[aD,<- d];exact c
 have p:¬i.toArray.size * k.toNat > (2 ^ 63-1)/8:=by
  have:(sizeLine:Nat)<=(2 ^ 63-1)/8:=by decide
  lia
 have b:¬(!Builtin.List.listFitsIndex k)=true:=by rw[fitsIndex_both D C];exact aH
 have g:¬Builtin.List.listTooLong (i.toArray.size * k.toNat)=true:=by rw[OJ o];exact aH
 have w:List.foldl (λB A=>B++A) #[] (List.replicate (if i.toArray.isEmpty=true then 0 else k.toNat) i.toArray)=(List.replicate k.toNat i).flatten.toArray:=by
  have E:∀m:Nat,List.foldl (λB A=>B++A) #[] (List.replicate m i.toArray)=(List.replicate m i).flatten.toArray:=λm=>by
   have:=foldl_rep i m []
   rw[bK]at this;exact this
  rw[E];cases i with|nil=>simp|cons a j=>rw[aj (by simp)]
 refine wpAny_binaryOp_repeat_ref (T := "list") (U := "int") (by decide) ⟨_,e,rfl⟩ (λS=>typeIs_int S k t) noFill_list_mul F.fills_int_mul F.slot_int_rmul repeat_list F.slot_int_index.lookup
  (call_meets F.slot_int_rmul (typeIs_int s k t) F.entry_int_rmul (F.args_int_rmul_2 _ _) (int___rmul___int_list k t l i.toArray n)
   ⟨e,rfl,⟨_,e,rfl⟩,call_meets F.slot_list_mul ⟨_,e,rfl⟩ F.entry_list_mul (F.args_list_mul_2 _ _) (AutoListH.list___mul___list_int_3 l i.toArray n k t b p g) ⟨e,?_⟩⟩)
 rw[w];exact⟨.ref _,_,I.lnew (t':=s.toks) (r.rep k.toNat) (by rw[len_rep,mul_comm];exact c),rfl,q _ I.fresh⟩
end
end L2
namespace Att
open PySem PySem.W PySem.Calls PyProof.Rows
def Hc {P:Params}:∀(N:bN)(v:bP),WellAll P h v (N.map WData.int)->IntsAre v N:=by
 intro N
 induction N with
 |nil=>
  intro v w;rw[map_nil]at w;cases w;exact .nil
 |cons n N i=>
  intro v w;rw[aQ]at w;cases w with
  |cons a b=>
   cases a;exact .cons _ _ (i _ b)
def DV {l:OpenLaw}(u:l.most=some n){P:Params}{A:List WData}{v:bP}
  (H:l.row.toRowW.claim.pre A=true)(f:WellAll P h v A):
  ∃a vs ns,v=[Value.ref a]/\A=[WData.list (ns.map WData.int)]/\h.get? a=some { cls:=.type "list",data:=.seq vs.toArray }/\IntsAre vs ns/\ns.length<=n:=by
 have g:WShape.hasAll [] A [.list .int]=true:=(pre_splitW H).1;have i:l.pre.holds [] { args:=A }=true:=(pre_splitW H).2;obtain⟨d,r,rfl,y,x⟩:=hasAllW_cons g;obtain rfl:=hasAllW_nil x;obtain⟨X,rfl,p⟩:=hasW_list y;obtain⟨ns,rfl⟩:=items_int p;have t:ns.length<=n:=by
  unfold OpenLaw.pre at i;have e:(WTm.not (.lt (.lit (.int (n:Int))) (.len (.arg 0)))).holds [] { args:=[.list (ns.map .int)] }=true:=by have e:=(holds_andW i).1;rw[u]at e;exact e
  have c:=condW_of e (w_not (w_lt w_lit (w_len_list (w_arg rfl))));rw[ag]at c;refine Nat.le_of_not_lt λq=>?_;have Q:(n:Int)<((ns.length:Nat):Int):=by lia
  first
   |(rw[ax Q]at c;exact absurd c (by decide))
   |(simp at c;lia)
 cases f with
 |cons j w=>
  cases w;cases j with|list o b=>exact⟨_,_,ns,rfl,rfl,o,Hc ns _ b,t⟩
def DD (l:OpenLaw)(a:List WData):l.row.toRowW.claim.post a (.bool true) a=true:=
 postW_of (r:=l.row.toRowW) (X:=(true==true))
  (show WShape.has [] (.bool true) .bool=true by first|rfl|decide|simp[WShape.has,WShape.arms,WShape.armsAll])
  (show(WTm.eq .res (.lit (.bool true))).value [] { args:=a,res:=some (.bool true),after:=a }=some (.bool (true==true)) from w_eq_bool (w_res rfl) w_lit) rfl
def Eo {l:OpenLaw}{q:Program}{L:bU}{P:World->Heap->Prop}{d:DefRec}
  (T:l.most=some n)(e:d.params.defaults=[])
  (call:∀(w:World)(b S:Shared)(M Q:bX)(fa:Addr)(o:Obj)(K J C:Value)(a:Addr)(E:bP)(N:bN),
   Ground q L [] XP w b M Q S.heap->P w S.heap->
   S.heap.get? fa=some o->o.data=.func (docDef d.name d.params d.body d.scope K J C)->S.heap.CodeRec J d.name->M d.name=some (.ref fa)->
   S.heap.get? a=some { cls:=.type "list",data:=.seq E.toArray }->IntsAre E N->N.length<=n->S.gens=#[]->
   codeAny (model l.prog w) callerA (.call (.ref fa) ⟨[.ref a],[]⟩) (λr s'=>r=.ok (.ret (.bool true))/\OldK S.heap s'.heap/\s'.os=S.os/\AllBare s'.gens) S):
  WalkO q L XP P l.row.toRowW d [] (λf E=>PySem.call f E):=by
 intro w b S M Q G Y fa o K J C A kV t X i D g v args vals as h y j c u;obtain rfl:A=.none:=Dflts.none D e;obtain rfl:kV=.none:=Dflts.noKw D;obtain⟨a,E,N,rfl,rfl,H,B,I⟩:=DV T h c;refine enter_call (codeAny_mono (call w b S M Q fa o K J C a E N G Y t (fd_plain X) i g H B I v) λr s' p=>?_);obtain⟨rfl,Z,z,x⟩:=p;exact⟨.inl ⟨.bool true,.bool true,[],rfl,λ_=>rfl,.bool true,DD l _,λ_=>⟨List.Pairwise.nil,λ_ U=>(nomatch U)⟩⟩,Z,z,x⟩
end Att
namespace L2
open PySem PySem.Spec PyProof.Rows
noncomputable abbrev LY {K:Frag}(_:K.In h):Frag:=K
noncomputable def gU (s:Stmt):Arguments:=match s with|.FunctionDef _ a _ _ _ _ _ _ _ _=>a|_=>{ posonlyargs:=[],args:=[],vararg:=none,kwonlyargs:=[],kw_defaults:=[],kwarg:=none,defaults:=[] }
noncomputable def jV (s:Stmt):b9:=match s with|.FunctionDef _ _ b _ _ _ _ _ _ _=>b|_=>[]
noncomputable def qf (s:Stmt):Scope:=match s with|.FunctionDef _ _ _ _ _ _ S _ _ _=>S|_=>{ kind:=.function,names:=[],isGenerator:=false,isCoroutine:=false }
abbrev kq:Zb:=λ_ _ _ _ _ _=>False
abbrev E0:XK:=λ_ _ _=>False
def ew:Passes kq X E0:=λ_ _ _ _ _ _ _ h=>h.elim
structure kL (K:Frag)(x qual:Str)(st:Stmt)(f:Addr)(fd:FuncData):Prop where
 ex:∃(oc:Value) (od:b8) (kV doc pm:Value) (an:b8) (cdv ct:Value) (oX:Array (Option Value)),
  fd=fnOf x qual (gU st) (jV st) (qf st) .none kV doc pm an cdv ct/\K.lookup f=some ⟨oc,od,.func fd,oX⟩/\codeIn K cdv qual=true
 kp:keepIn K (.ref f)=true
section
variable {K:Frag}
def kL.ok {i:Stmt}{ps:bU}{k:Nat}{j:Sp}(F:kL K x qual i f fd)(S:kO N ps (qf i))(len:∀v H Q E,j v H Q E->v.length=ps.length)
  (y:∀(c:Value)(A:Around)(g:bY)(s:Shared)(H:Hp)(v:List V)(Q:VK)(E:XK),jd k (A.deeper (envOfC qual (qf i) s.heap.objs.size f c))->j v H Q E->
   ∃t,yJ (yO kq P w K mg base N qual (qf i) f c A g s H E).nox (jV i) t/\t { nx:=λ_ a=>Q .non a,rt:=Q } (start N v) H):yh P w K mg base kq (k+1) f fd ps j:=by
 obtain⟨e,b,kV,D,n,u,c,ct,o,rfl,l,d⟩:=F.ex;refine Sg l d S len λA g s H v Q E r p=>?_;obtain⟨t,h,q⟩:=y c A g s H v Q E r p;exact⟨t,h.nox,q⟩
def kL.binds {S:Stmt}{ps:bU}(F:kL K x qual S f fd)
  (h:∀(kV D p:Value)(A:b8)(c ct:Value)(u:bP),u.length=ps.length->bindArgs (fnOf x qual (gU S) (jV S) (qf S) .none kV D p A c ct) ⟨u,[]⟩=pure (ps.zip u)):Binds K fd ps []:=by
 obtain⟨a,d,kV,D,p,A,c,ct,o,rfl,l,H⟩:=F.ex;exact .all (h kV D p A c ct)
def eB {S:Stmt}{a:Value}{o A:b8}{kV d p C ct:Value}(l:K.lookup f=some ⟨a,o,.func (fnOf x qual (gU S) (jV S) (qf S) .none kV d p A C ct),oX⟩)
  (c:codeIn K C qual=true)(k:keepIn K (.ref f)=true):kL K x qual S f (fnOf x qual (gU S) (jV S) (qf S) .none kV d p A C ct):=⟨⟨a,o,kV,d,p,A,C,ct,oX,rfl,l,c⟩,k⟩
end
def eC {A:Around}{k:Nat}(h:jd k A):A.units+1<cLine:=Nat.lt_of_le_of_lt (Nat.add_le_add_left (by decide:1<=64) _) h.units
section
variable {κ:Type}[DecidableEq κ]
noncomputable def kJ (a:List (κ×V))(k:κ):Option V:=(a.find? λK=>decide (K.1=k)).map (·.2)
noncomputable def putK (a:List (κ×V))(k:κ)(v:V):List (κ×V):=
 if (a.any λK=>decide (K.1=k))=true then a.map (λK=>if K.1=k then(K.1,v) else K) else a++[(k,v)]
def GC {p:κ×V}{r:List (κ×V)}{k:κ}(e:p.1=k):kJ (p::r) k=some p.2:=by simp[kJ,find?_cons,e]
def GA {p:κ×V}{r:List (κ×V)}{k:κ}(e:¬p.1=k):kJ (p::r) k=kJ r k:=by simp[kJ,find?_cons,e]
theorem OA (k:κ):∀kvs:List (κ×V),(kvs.any λK=>decide (K.1=k))=(kJ kvs k).isSome
 |[]=>rfl|p::r=>by
  rw[any_cons]
  by_cases e:p.1=k
  ·simp only[GC e,ax e,Bool.true_or,isSome_some]
  ·rw[GA e,aG e,Bool.false_or];exact OA k r
def Ec (K:List (κ×V))(k:κ)(v:V):(putK K k v).length<=K.length+1:=by
 unfold putK
 split
 ·rw[ag];lia
 ·rw[ay,bc,List.length_nil];lia
def C3 {K:List (κ×V)}{k:κ}(v:V)(h:kJ K k=none):putK K k v=K++[(k,v)]:=by unfold putK;rw[OA,h];exact aj (by decide)
def KV.val {K:List (κ×V)}{v:List (κ×Value)}(r:KV K v)(k:κ):Qu (kJ K k) (valueAt v k):=by
 unfold KV at r
 induction r with
 |nil=>exact True.intro|@cons p q ps Q h t i=>
  obtain⟨H,a⟩:=h
  by_cases e:p.1=k
  ·have E:q.1=k:=H.symm.trans e
   have b:valueAt (q::Q) k=some q.2:=by simp[valueAt,find?_cons,E]
   rw[GC e,b];exact a
  ·have E:¬q.1=k:=λz=>e (H.trans z)
   have b:valueAt (q::Q) k=valueAt Q k:=by simp[valueAt,find?_cons,E]
   rw[GA e,b];exact i
theorem KV.any {a:List (κ×V)}{v:List (κ×Value)}(r:KV a v)(k:κ):(a.any λK=>decide (K.1=k))=v.any λK=>decide (K.1=k):=by
 unfold KV at r
 induction r with|nil=>rfl|cons h t i=>rw[any_cons,any_cons,i,h.1]
def KV.repl {a:List (κ×V)}{v:List (κ×Value)}(r:KV a v)(k:κ){y:V}(ry:RelV y u):
  KV (a.map λK=>if K.1=k then(K.1,y) else K) (v.map λK=>if K.1=k then(K.1,u) else K):=by
 unfold KV at r ⊢
 induction r with
 |nil=>exact .nil|@cons p q ps Q h t i=>
  rw[aQ,aQ];refine .cons ?_ i;obtain⟨H,b⟩:=h
  by_cases e:p.1=k
  ·rw[ai e,ai (H.symm.trans e)];exact⟨H,ry⟩
  ·rw[aj e,aj (λz=>e (H.trans z))];exact⟨H,b⟩
def KV.put {a:List (κ×V)}{v:List (κ×Value)}(r:KV a v)(k:κ){y:V}(ry:RelV y u):KV (putK a k y) (stored v k u):=by
 unfold putK stored;rw[r.any k]
 by_cases e:(v.any λK=>decide (K.1=k))=true
 ·rw[ai e,ai e];exact r.repl k ry
 ·rw[aj e,aj e];exact Paired.snoc r ⟨rfl,ry⟩
theorem KV.length {K:List (κ×V)}{v:List (κ×Value)}(r:KV K v):K.length=v.length:=Paired.length r
end
def TY {k:Key}(r:RelV (kV k) u):(yZ P w).is k u=true:=by
 cases k with|inl i=>obtain⟨t,e⟩:=(show ∃t,u=Value.int i t from r);subst e;exact F8 P w i t|inr x=>obtain⟨t,e⟩:=(show ∃t,u=Value.str x t from r);subst e;exact Er P w x t
theorem PV:∀{K:List Key}{u:bP},Vals (K.map kV) u->ItemsAre (yZ P w) K u
 |[],_,r=>by rw[map_nil]at r;cases r;exact .nil|k::K,_,r=>by
  rw[aQ]at r;cases r with|cons h t=>exact .cons (TY h) (PV t)
abbrev KT (H:Hp):List (List Key×V)->List (List Key×Addr×Value)->Prop:=Paired λp q=>p.1=q.1/\H q.2.1=some (.tup (p.1.map kV))/\RelV p.2 q.2.2
def KT.val {K:List (List Key×V)}{x:List (List Key×Addr×Value)}(r:KT H K x)(k:List Key):Qu (kJ K k) ((atKey x k).map (·.2)):=by
 induction r with
 |nil=>exact True.intro|@cons p q ps Q h t i=>
  obtain⟨a,_,c⟩:=h
  by_cases e:p.1=k
  ·have E:q.1=k:=a.symm.trans e
   have b:atKey (q::Q) k=some q.2:=by simp[atKey,find?_cons,E]
   rw[GC e,b];exact c
  ·have E:¬q.1=k:=λz=>e (a.trans z)
   have b:atKey (q::Q) k=atKey Q k:=by simp[atKey,find?_cons,E]
   rw[GA e,b];exact i
section
def Mx {u:HO}(ok:jf P w H h)(e:Rd H a u):qX P w H h a u:=e.ok ok
def TX (ok:jf P w H h)(e:Rd H a (.dK kvs)):kvs.length<=sizeLine/\(a==sysModules)=false/\∃vs,KV kvs vs/\h.DictOf (yZ P w) a vs:=
 show qX P w H h a (.dK kvs) from Mx ok e
def M0 (ok:jf P w H h)(e:H a=some (.dK kvs)):kvs.length<=sizeLine/\(a==sysModules)=false/\∃vs,KV kvs vs/\h.DictOf (yZ P w) a vs:=TX ok (.inl e)
def NY {K:List Key}(ok:jf P w H h)(e:H a=some (.tup (K.map kV))):(tupleKind (yZ P w)).is h K a:=by
 obtain⟨_,i,r,o,d,c,n,b⟩:=(show qX P w H h a (.tup (K.map kV)) from ok a _ e)
 exact⟨o,i.toArray,n,d,c.1,b,by simpa using PV r⟩
def MV {K:List (List Key×V)}(ok:jf P w H h)(e:Rd H a (.dT K)):K.length<=sizeLine/\(a==sysModules)=false/\
  ∃X,KT H K X/\h.DictOfH (tupleKind (yZ P w)) a X:=by
 obtain⟨z,y,X,r,o,E,j,u,n,g,f,d⟩:=(show qX P w H h a (.dT K) from Mx ok e)
 refine⟨z,y,X,r,o,E,j,u,n,g,f,λx b=>?_,d⟩;have all:∀{l:List (List Key×V)}{m:List (List Key×Addr×Value)},KT H l m->∀x∈m,(tupleKind (yZ P w)).is h x.1 x.2.1:=by
  intro l m q
  induction q with
  |nil=>intro x b;exact nomatch b
  |@cons p q ps Q c t i=>
   intro x b;rcases cm.mp b with e|b
   ·subst e
    exact NY ok (by rw[<- c.1];exact c.2.1)
   ·exact i x b
 exact all r x b
end
def YL (H:Hp)(a:Addr)(y:V)(r:Option V):Prop:=
 (∃K k,Rd H a (.dK K)/\y=kV k/\r=kJ K k)∨∃K k b,Rd H a (.dT K)/\y=.ref b/\H b=some (.tup (k.map kV))/\r=kJ K k
theorem YL.k {k:Key}(e:H a=some (.dK kvs)):YL H a (kV k) (kJ kvs k):=.inl ⟨kvs,k,.inl e,rfl,rfl⟩
section
variable {s:Shared}{y:V}{o:Option V}{A:Around}
def Inv.big (I:Inv X o6 σ H s):sysModules<s.heap.objs.size:=by have h:mainGlobals<s.heap.objs.size:=(I.mod.glob.keeps I.bk).lt;exact lt_trans (by decide) h
def D8 (i:A.units+1<cLine)(I:Inv X o6 σ H s)(g:YL H a y (some v))(ry:RelV y u)(h:∀c s',Inv X o6 σ H s'->RelV v c->Q c s'):
  wpAny (model X.prog X.w) A (getItem (.ref a) u) Q E s:=by
 rcases g with ⟨K,k,e,f,l⟩|⟨K,k,b,e,f,n,l⟩
 ·subst f
  obtain⟨z,C,B,q,D⟩:=TX I.hok e;obtain⟨c,t,r⟩:=Qu.some_of (v:=v) (o:=valueAt B k) (by rw[l];exact q.val k)
  exact wpAny_getItem_of (TY ry) D.mapOf t (h c _ (I.tok _) r)
 ·subst f
  cases (show u=Value.ref b from ry)
  obtain⟨z,C,x,q,D⟩:=MV I.hok e;obtain⟨c,t,r⟩:=Qu.some_of (v:=v) (o:=(atKey x k).map (·.2)) (by rw[l];exact q.val k)
  obtain⟨p,j,d⟩:=Option.map_eq_some_iff.mp t;refine wpAny_getItem_heap (tupleKind_room_in1 i) (NY I.hok n) D j ?_;rw[d];exact h c _ (I.tok _) r
def eD {ob:HO}(I:Inv X o6 σ H s)(M:WG (H a))(h:Heap.SameBut a s.heap h')(d:∃q,h'.get? a=some q)(new:qX X.prog X.w (upd H a ob) h' a ob):
  Inv X o6 σ (upd H a ob) { s with heap:=h',toks:=t' }:=
 I.write (x:=a) (e:=a) M (.inl rfl) (λb q c z=>(h.2 b c).trans z) d new
def eE {H:Hp}{v:List (Key×Value)}(z:kvs.length<=sizeLine)(h:(a==sysModules)=false)(r:KV kvs v)(d:h'.DictOf (yZ P w) a v):
  qX P w H h' a (.dK kvs):=⟨z,h,v,r,d⟩
end
def SO (i:Expr):Prop:=∀o I,subscripted i false o I=operate [o,I] (getItem o I)
def eF {p:Program}{A:Around}{s:Shared}{v f:Expr}{T id:String}
  (l:typeLookup (.type T) "__getitem__"=pure (some (.builtin id)))(e:SO f)
  (h:wpAny (model p w) A (eval v env) (λo b=>wpAny (model p w) A (eval f env) (λi S=>S.TypeIs o T/\wpAny (model p w) A (getItem o i) Q E S) E b) E s):
  wpAny (model p w) A (eval (.Subscript v f o7) env) Q E s:=by
 refine Subscript_ (wpAny_mono h (λo b d=>wpAny_mono d (λi S H=>?_) λ_ _ x=>x) λ_ _ x=>x);obtain⟨hT,H⟩:=H;unfold subscriptTail;refine cb ?_;rw[getitemInPython_of_ne hT.not_modules];refine cb (wpAny_specialOf hT l ?_);have n:wpAny (model p w) A (subscripted f false o i) (λr a=>wpAny (model p w) A (letTemporaryGo v o r >>= λ_=>pure r) Q E a) E S:=by rw[e o i];exact wpAny_operating (wpAny_mono H (λr a c=>cb (wpAny_letTemporaryGo (cg c))) λ_ _ x=>x)
 first
  |exact cg (cb n)
  |exact cb (cg (cb n))
  |exact cb n
def El {s:Shared}{y:V}{o:Option V}(I:Inv X o6 σ H s)(g:YL H a y o):s.TypeIs (.ref a) "dict":=by
 rcases g with ⟨K,k,e,_,_⟩|⟨K,k,b,e,_,_,_⟩
 ·obtain⟨_,_,v,_,d⟩:=TX I.hok e
  exact d.typeIs
 ·obtain⟨_,_,x,_,d⟩:=MV I.hok e
  exact d.typeIs
def eG (td ty:TE):TE:=λb H Q=>td b H λx c=>ty b c λy h=>∃a v,x=.ref a/\YL h a y (some v)/\Q v h
section
variable {o i:Expr}{td ty:TE}
def eH (d:X.A.units+1<cLine)(f:PE X o td)(j:PE X i ty)(e:SO i):PE X (.Subscript o i o7) (eG td ty):=by intro P s z H Q I h;refine eF PySem.F.slot_dict_getitem.lookup e (zQ (f P s z H _ I h) λu S ⟨x,B,n,rx,c⟩=>zQ (j P S z B _ n c) λt D ⟨y,p,b,ry,a,v,E,g,q⟩=>?_);subst E;obtain rfl:u=Value.ref a:=rx;exact⟨El b g,D8 d b g ry λw C l r=>⟨v,p,l,r,q⟩⟩
end
def BZ (h:Heap)(b:sysModules<h.objs.size):qX P w H (h.push { cls:=.type "dict",data:=.dict #[] }) h.objs.size (.dK []):=
 ⟨zero_le _,beq_eq_false_iff_ne.mpr (Ne.symm (aO b)),[],.nil,Heap.DictOf.new h⟩
def eI:TE:=λ_ H Q=>∀p,H p=none->Q (.ref p) (upd H p (.dK []))
section
def Bd:PE X (.Dict [] [] o7) eI:=λp s b H Q I h=>
 wpAny_Dict_empty ⟨.ref s.heap.objs.size,_,I.laid (a:=s.heap.objs.size) (o:=.dK []) (t':=s.toks) (λ_ _ q=>af _ q) (ao _) (BZ s.heap I.big),rfl,h _ (I.hok.fresh (ao _))⟩
end
noncomputable def kC (e:Env):List (Str×NameKind)->List (Str×Addr)->List (Str×Addr)
 |[],acc=>acc|(n,k)::r,acc=>kC e r (if k==.free then(n,(e.cells.lookup n).getD 0)::acc else acc)
def CM (f:Str×NameKind->List (Str×Addr)->Sem (ForInStep (bZ)))
  (l:∀n k r,f (n,k) r=if (k==NameKind.free)=true then(do let c <- cellOf env n;pure (ForInStep.yield ((n,c)::r))) else pure (ForInStep.yield r)):
  ∀(N:List (Str×NameKind))(A:bZ),(∀y∈N,y.2=.free->∃c,env.cells.lookup y.1=some c)->(forIn N A f:Sem (bZ))=pure (kC env N A):=by
 intro N
 induction N with
 |nil=>intro A _;rfl|cons y r i=>
  intro A b;obtain⟨n,k⟩:=y;rw[forIn_cons,l];unfold kC;have h:=i (if k==.free then(n,(env.cells.lookup n).getD 0)::A else A) (λy g=>b y (aA _ g))
  by_cases a:k=.free
  ·subst a
   obtain⟨c,d⟩:=b (n,.free) aF rfl;have e:cellOf env n=pure c:=by unfold cellOf;rw[d]
   have H:List.lookup n env.cells=some c:=d;simp only[e,H,Option.getD_some,bA,if_true]at h ⊢;exact h
  ·have j:(k==NameKind.free)=false:=by simpa using a
   simp only[j,false_eq_true,if_false]at h ⊢;exact h
def PD (h:∀y∈scope.names,y.2=.free->∃c,env.cells.lookup y.1=some c):closureFor scope env=pure (kC env scope.names []):=by
 unfold closureFor;dsimp only;rw[CM _ (λn k r=>rfl) scope.names [] h]
 rfl
theorem Jd {n:Str}{c:Addr}:∀(N:List (Str×NameKind))(a:bZ),(n,c)∈kC env N a->(n,c)∈a∨((n,NameKind.free)∈N/\c=(env.cells.lookup n).getD 0)
 |[],a,h=>.inl h|(x,k)::r,a,h=>by
  unfold kC at h;rcases Jd r _ h with h|⟨h1,h2⟩
  ·by_cases H:k=.free
   ·subst H
    simp only[bA,if_true]at h;rcases cm.mp h with e|h
    ·cases e;exact .inr ⟨aF,rfl⟩
    ·exact .inl h
   ·have b:(k==NameKind.free)=false:=by simpa using H
    simp only[b,false_eq_true,if_false]at h;exact .inl h
  ·exact .inr ⟨aA _ h1,h2⟩
theorem Gj {n:Str}:∀(N:List (Str×NameKind))(A:bZ),((n,NameKind.free)∈N∨(A.lookup n).isSome=true)->((kC env N A).lookup n).isSome=true
 |[],A,h=>by
  rcases h with h|h
  ·cases h
  ·exact h
 |(x,k)::r,A,h=>by
  unfold kC;refine Gj r _ ?_;rcases h with h|h
  ·rcases cm.mp h with e|h
   ·cases e
    right
    simp
   ·exact .inl h
  ·right
   by_cases H:(k==NameKind.free)=true
   ·rw[ai H,bF]
    cases a:n==x
    ·exact h
    ·rfl
   ·rw[aj H];exact h
theorem VR {n:Str}{c:Addr}:∀(N:List (Str×NameKind))(k:Nat)(A:bZ),(n,c)∈cellsFrom k N A->(n,c)∈A∨(k<=c/\(n,NameKind.cell)∈N)
 |[],_,_,h=>.inl h|(x,q)::r,k,A,h=>by
  unfold cellsFrom at h
  by_cases a:(q==NameKind.cell)=true
  ·rw[ai a]at h
   have H:q=.cell:=by simpa using a
   rcases VR r _ _ h with h|⟨h1,h2⟩
   ·rcases cm.mp h with e|h
    ·cases e;subst H;exact .inr ⟨ao _,aF⟩
    ·exact .inl h
   ·exact .inr ⟨by lia,aA _ h2⟩
  ·rw[aj a]at h
   rcases VR r _ _ h with h|⟨h1,h2⟩
   ·exact .inl h
   ·exact .inr ⟨h1,aA _ h2⟩
theorem VX:∀(b:List (Str×NameKind))(k:Nat)(A:bZ),(∀n c,(n,c)∈A->c<k)->(∀n N c,(n,c)∈A->(N,c)∈A->n=N)->∀n N c,(n,c)∈cellsFrom k b A->(N,c)∈cellsFrom k b A->n=N
 |[],_,_,_,hi,n,N,c,h,h'=>hi n N c h h'|(x,q)::r,k,A,l,hi,n,N,c,h,h'=>by
  unfold cellsFrom at h h'
  by_cases a:(q==NameKind.cell)=true
  ·rw[ai a]at h h'
   refine VX r (k+1) ((x,k)::A) (λm d f=>?_) (λm M d f H=>?_) n N c h h'
   ·rcases cm.mp f with e|f
    ·cases e;exact bz _
    ·exact bg (l m d f)
   ·rcases cm.mp f with e|f
    ·rcases cm.mp H with E|H
     ·cases e;cases E;rfl
     ·cases e;exact absurd (l M _ H) (aS _)
    ·rcases cm.mp H with E|H
     ·cases E;exact absurd (l m _ f) (aS _)
     ·exact hi m M d f H
  ·rw[aj a]at h h'
   exact VX r k A l hi n N c h h'
theorem VO {n:Str}{c:Addr}:∀(N:List (Str×NameKind))(h:Heap)(a:bZ),(n,c)∈cellsFrom h.objs.size N a->(n,c)∈a∨(pushCells h N).IsCell c none
 |[],_,_,q=>.inl q|(x,k)::r,h,a,q=>by
  unfold cellsFrom at q;unfold pushCells
  by_cases H:(k==NameKind.cell)=true
  ·rw[ai H]at q ⊢
   have:=VO r (h.push { cls:=.type "cell",data:=.cell none }) ((x,h.objs.size)::a) (by rw[bp];exact q)
   rcases this with z|z
   ·rcases cm.mp z with e|z
    ·cases e
     exact .inr ⟨_,pushCells_keeps r _ _ _ (aC _ rfl),rfl⟩
    ·exact .inl z
   ·exact .inr z
  ·rw[aj H]at q ⊢
   exact VO r h a q
def ID {A:Around}{s:Shared}{globals:Addr}{cl:bZ}{Q:Env->Shared->Prop}
  (h:Q { scope,locals:=s.heap.objs.size,globals,cells:=cellsFrom (s.heap.objs.size+1) scope.names cl,qual,func:=none,code:=env.code,frame:=env.frame,builtins:=env.builtins }
   { s with heap:=pushCells (s.heap.push { cls:=.type "dict",data:=.dict #[] }) scope.names }):
  wpAny M A (newFunctionEnv scope globals cl [] qual none .none (some env)) Q E s:=by
 simp only[newFunctionEnv,isSome_some,if_true];refine cb (wpAny_alloc ?_);refine cb (wpAny_layCells _ (λn K c=>by cases H:K==NameKind.cell<;>simp[H]) _ _ _ _ ?_)
 rw[show({ s with heap:=s.heap.push { cls:=.type "dict",data:=.dict #[] } }:Shared).heap.objs.size=s.heap.objs.size+1 from bp ..]
 rw[forIn_nil];exact cb (cg (cg h))
def jz (X:Cx)(N:bU)(scope:Scope)(s:Shared)(H:Hp)(f:bQ)(e:bV):Cx where
 prog:=X.prog
 w:=X.w
 K:=X.K
 mg:=X.mg
 base:=X.base
 A:=X.A
 N:=N
 s0:=s
 H0:=H
 env:={ scope:=relabel scope X.env,locals:=s.heap.objs.size,globals:=X.env.globals,cells:=cellsFrom (s.heap.objs.size+1) scope.names (kC X.env scope.names []),qual:=X.env.qual,func:=none,code:=X.env.code,frame:=X.env.frame,builtins:=X.env.builtins }
 outer:=X.stack
 stack:=X.stack
 ex:=f
 fn:=λx=>scope.names.lookup x==some .local || scope.names.lookup x==some .cell
 calm:=X.calm
 pn:=[]
 xe:=e
structure gw (X:Cx)(scope:Scope):Prop where
 kind:scope.kind=.function
 nd:(scope.names.map (·.1)).Nodup
 free:∀y∈scope.names,y.2=.free->X.env.kindOf y.1=some .cell∨X.env.kindOf y.1=some .free
theorem JZ {k:α}:∀{l:List (Str×α)},(l.map (·.1)).Nodup->(x,k)∈l->l.lookup x=some k
 |(y,q)::r,nd,h=>by
  rw[aQ,List.nodup_cons]at nd;rw[bF];rcases cm.mp h with e|h
  ·cases e;simp
  ·have n:(x==y)=false:=by
    rw[beq_eq_false_iff_ne];intro e
    apply nd.1
    rw[<- e];exact List.mem_map_of_mem (f:=(·.1)) h
   rw[n];exact JZ nd.2 h
def VH {k:NameKind}(h:(relabel scope env).names.lookup x=some k):scope.names.lookup x=some k∨(k=.cell/\scope.names.lookup x=some .free/\env.kindOf x=some .cell):=by
 unfold relabel at h;dsimp only at h;generalize scope.names=names at h ⊢
 induction names with
 |nil=>cases h|cons y r i=>
  obtain⟨n,q⟩:=y;rw[aQ]at h;have split:(if (q==NameKind.free&&env.scope.kind==.function&&env.kindOf n==some .cell)=true then(n,NameKind.cell) else(n,q)).1=n:=by split<;>rfl
  rw[bF]at h ⊢;dsimp only at h;rw[split]at h;cases a:x==n with
  |false=>rw[a]at h;exact i h|true=>
   rw[a]at h;have e:x=n:=aK.mp a;subst e
   by_cases H:(q==NameKind.free&&env.scope.kind==.function&&env.kindOf x==some .cell)=true
   ·rw[ai H]at h
    simp only[ak,aK]at H;cases h
    right
    exact⟨rfl,by rw[H.1.1],H.2⟩
   ·rw[aj H]at h
    left
    exact h
section
variable {s:Shared}
def Inv.capt (I:Inv X o6 σ H s)(S:gw X scope)(h:(x,NameKind.free)∈scope.names):∃c,X.env.cells.lookup x=some c:=I.ok.has x (S.free _ h rfl)
def Yj (I:Inv X o6 σ H s)(S:gw X scope){c:Addr}(h:(x,c)∈cellsFrom (s.heap.objs.size+1) scope.names (kC X.env scope.names [])):
  ((x,NameKind.free)∈scope.names/\X.env.cells.lookup x=some c/\c<s.heap.objs.size)∨((x,NameKind.cell)∈scope.names/\s.heap.objs.size<c/\∀f:Heap,f.objs.size=s.heap.objs.size+1->(pushCells f scope.names).IsCell c none):=by
 rcases VR _ _ _ h with d|⟨d,h2⟩
 ·left
  rcases Jd _ _ d with z|⟨z,e⟩
  ·cases z
  ·obtain⟨C,a⟩:=I.capt S z
   rw[a]at e;have E:c=C:=e;subst E;obtain⟨v,q⟩:=I.cell x c a;exact⟨z,a,q.lt⟩
 ·right
  refine⟨h2,d,λf b=>?_⟩;have g:=h;rw[<- b]at g;rcases VO _ f _ g with z|z
  ·exfalso
   rcases Jd _ _ z with z|⟨z,e⟩
   ·cases z
   ·obtain⟨C,a⟩:=I.capt S z
    rw[a]at e;have E:c=C:=e;subst E;obtain⟨v,q⟩:=I.cell x c a;exact aS _ (aJ (bg q.lt) d)
  ·exact z
def Cm {xe:bV}{f:St}(I:Inv X o6 σ H s)(S:gw X scope)(hf:∀b∈fp,wJ X o6 H b)(A:∀b∈fp,b<s.heap.objs.size)(hl:f.length=N.length)
  (hs:∀(j:Nat)(x:Str)(v:V),N[j]? =some x->f[j]? =some (some v)->(x,NameKind.free)∈scope.names/\∃i:Nat,X.N[i]? =some x/\σ[i]? =some (some v)):
  Inv (jz X N scope s H fp xe) [] f H { s with heap:=pushCells (s.heap.push { cls:=.type "dict",data:=.dict #[] }) scope.names }:=by
 have K:∀b o,s.heap.get? b=some o->(pushCells (s.heap.push { cls:=.type "dict",data:=.dict #[] }) scope.names).get? b=some o:=λb o e=>pushCells_keeps _ _ _ _ (af _ e);have Q:(s.heap.push { cls:=.type "dict",data:=.dict #[] }).objs.size=s.heap.objs.size+1:=bp ..;have l:∀{x:Str}{c:Addr},(jz X N scope s H fp xe).env.cells.lookup x=some c->(x,c)∈cellsFrom (s.heap.objs.size+1) scope.names (kC X.env scope.names []):=λh=>PySem.mem_of_lookup h;have L:∀{x:Str},((jz X N scope s H fp xe).env.kindOf x=some .cell∨(jz X N scope s H fp xe).env.kindOf x=some .free)->∃c,(jz X N scope s H fp xe).env.cells.lookup x=some c:=λ {x} h=>by
  refine Option.isSome_iff_exists.mp (cellsFrom_some _ _ _ ?_);have two:scope.names.lookup x=some .cell∨scope.names.lookup x=some .free:=by
   rcases h with h|h
   ·rcases VH h with z|⟨_,z,_⟩
    ·exact .inl z
    ·exact .inr z
   ·rcases VH h with z|⟨z,_⟩
    ·exact .inr z
    ·cases z
  rcases two with z|z
  ·exact .inl z
  ·exact .inr (Gj _ _ (.inl (PySem.mem_of_lookup z)))
 have exP:∀b∈fp,∀x c,(jz X N scope s H fp xe).env.cells.lookup x=some c->c≠b:=λb a x c e=>by
  rcases Yj I S (l e) with ⟨_,q,_⟩|⟨_,q,_⟩
  ·exact(hf b a).2.2.2.2.1 x c q
  ·intro z;subst z;exact aS _ (lt_trans q (A _ a))
 refine⟨⟨I.ok.mod,S.kind,I.ok.glob,I.ok.blt,ao _,λx y c h1 h2=>?_,λx h=>L h,λx c g h=>?_,I.ok.hd,I.ok.frames,.inl rfl,λb a=>⟨?_,exP b a⟩,I.bs,a4 I.ok.bsz I.sz,λb o e a=>?_,λb a z=>?_,I.stack,I.stkFree⟩,
  rfl,I.bare,Un.kept K,⟨λ_=>none,?_,λj x v h1 h2 Y=>?_⟩,λx c e=>?_,I.fresh,λx c e=>?_,λp hp=>?_,I.hok.kept K,hl⟩
 ·refine VX _ _ _ (λn c h=>?_) (λn n' c h h'=>?_) x y c (l h1) (l h2)
  ·rcases Jd _ _ h with z|⟨z,e⟩
   ·cases z
   ·obtain⟨c',D⟩:=I.capt S z
    rw[D]at e;have M:c=c':=e;subst M;obtain⟨v,q⟩:=I.cell n c D;exact bg q.lt
  ·rcases Jd _ _ h with z|⟨z,e⟩
   ·cases z
   ·rcases Jd _ _ h' with Z|⟨Z,M⟩
    ·cases Z
    ·obtain⟨d,hd⟩:=I.capt S z
     obtain⟨d',B⟩:=I.capt S Z;rw[hd]at e;rw[B]at M;have J:c=d:=e;have e2:c=d':=M;subst J;subst e2;exact I.ok.inj _ _ _ hd B
 ·rcases Yj I S (l h) with ⟨z,_,_⟩|⟨_,z,_⟩
  ·exfalso
   have J:=JZ S.nd z;have t:(scope.names.lookup x==some .local || scope.names.lookup x==some .cell)=true:=g;rw[J]at t;cases t
  ·exact bJ z
 ·exact aO (A b a)
 ·obtain⟨_,_,_,E,_⟩:=hf b a
  rcases E with E|E
  ·exact I.ok.noex b o e E
  ·exact absurd (aJ (aM e) (a4 I.ok.bsz E)) (aS _)
 ·obtain⟨_,h2,Y,_⟩:=hf b a
  rcases cm.mp (I.stkSub b z) with e|e
  ·exact h2 e
  ·exact Y e
 ·exact(Heap.Ns.new s.heap (.type "dict")).keeps (pushCells_keeps _ _)
 ·obtain⟨g,i,J,e2⟩:=hs j x v h1 h2
  obtain⟨m,hn,U⟩:=I.loc;have P:Y4 X.env.scope x:=.inr (S.free _ g rfl);obtain⟨u,r,lk⟩:=U i x v J e2 P;refine⟨u,r,.inr ?_⟩;have w:(jz X N scope s H fp xe).env.kindOf x=some .cell∨(jz X N scope s H fp xe).env.kindOf x=some .free:=by
   rcases Y with z|z|z
   ·exfalso
    rcases VH z with Z|⟨Z,_⟩
    ·rw[JZ S.nd g]at Z;cases Z
    ·cases Z
   ·exact .inl z
   ·exact .inr z
  refine⟨w,?_⟩;obtain⟨c,D⟩:=L w;refine⟨c,D,?_⟩;rcases Yj I S (l D) with ⟨_,q,_⟩|⟨q,_,_⟩
  ·rcases lk with ⟨z,_⟩|⟨_,c',C,cell⟩
   ·exfalso
    rcases S.free _ g rfl with k|k<;>(rw[k]at z;cases z)
   ·rw[q]at C;cases C
    exact cell.keeps K
  ·exfalso
   have a1:=JZ S.nd g;have a2:=JZ S.nd q;rw[a1]at a2;cases a2
 ·rcases Yj I S (l e) with ⟨_,q,_⟩|⟨_,_,q⟩
  ·obtain⟨v,z⟩:=I.cell x c q
   exact⟨v,z.keeps K⟩
  ·exact⟨_,q _ Q⟩
 ·rcases Yj I S (l e) with ⟨_,q,_⟩|⟨_,q,_⟩
  ·exact I.freeC x c q
  ·exact I.hok.fresh (bJ q)
 ·have T:p∈([]:bR):=hp
  cases T
end
abbrev gO:=Addr->St->Hp->(St->Hp->Prop)->Prop
noncomputable def Wk (E:Expr)(g:List Comprehension)(S:Scope)(p:Pos)(d:Nat)(a:Value)(e:Env)(k:Sem Fin):Sem Fin:=
 match g[d+1]? with
 |some b=>do
  let x <- eval b.iter e
  standAt b.iter.pos
  let x <- foldedSetIterable b.iter e x
  let _ <- runOwn (.compStart (.ListComp E g S p) (d+1) (<- holding [x] (pyIter x)) a e) e
  k
 |none=>do
  (do let _ <- call (.builtin "list.append") [a,<- eval E e])
  k
theorem Au {d:Nat}{I A:Value}(h:gens[d]? =some ⟨tg,o8,ifs,0⟩)(H:∀g',gens[d+1]? =some g'->g'.is_async=0):
  compTurn (.ListComp oN gens sc o7) d I A env=(do
   standAt o8.pos
   match <- pyNext I with
   |none=>pure (.done .next)|some v=>
    letOwnedTupleGo tg I v
    assign tg env v
    let mut ok:=true
    for c in ifs do
     if ok then ok <- isTrue c env (eval c env)
    if ok then Wk oN gens sc o7 d A env (again (.compLoop (.ListComp oN gens sc o7) d I A env))
    else again (.compLoop (.ListComp oN gens sc o7) d I A env)):=by
 unfold compTurn Wk;dsimp only;rw[h];cases hn:gens[d+1]? with
 |none=>rfl|some g'=>
  obtain⟨t,i,f,a⟩:=g';have e:a=0:=H _ hn;subst e
  rfl
def Qs (X:Cx)(i:bW)(t:TT):Prop:=
 ∀(o6:bR)(s:Shared)(σ:St)(H:Hp)(Q:Bool->Hp->Prop),Inv X o6 σ H s->t σ H Q->
  wpAny (model X.prog X.w) X.A (forIn i true λc r=>if r=true then do let ok <- isTrue c X.env (eval c X.env);pure (ForInStep.yield ok) else pure (ForInStep.yield r)) (TP X o6 σ Q) X.xe s
def eJ:TT:=λ_ H Q=>Q true H
def Cu:Qs X [] eJ:=λp s a H Q I h=>wpAny_tests_nil ⟨H,I,h⟩
def CJ {c:Expr}{t:TT}(h:PT X c t):Qs X [c] t:=λp s a H Q I w=>wpAny_tests_one (h p s a H Q I w)
def gc (X:Cx)(e:Expr)(g:List Comprehension)(c:Scope)(p:Pos)(d:Nat)(t:gO):Prop:=
 ∀(o6:bR)(s:Shared)(σ:St)(H:Hp)(D:Addr)(Q:St->Hp->Prop)(k:Sem Fin)(Q':Fin->Shared->Prop)(E:bV),Inv X o6 σ H s->t D σ H Q->
  (∀S a h,Inv X o6 a h S->Q a h->wpAny (model X.prog X.w) X.A k Q' E S)->wpAny (model X.prog X.w) X.A (Wk e g c p d (.ref D) X.env k) Q' E s
def eK (t:TE):gO:=λD a H Q=>t a H λy h=>∃Y,h D=some (.lst Y)/\Y.length<sizeLine/\Q a (upd h D (.lst (Y++[y])))
def K8 (J:It)(g:TG)(T:TT)(t:gO):gO:=λD e H Q=>∃W:Nat->Nat->St->Hp->Prop,(∃m,W 0 m e H)/\∀i m e H,W i m e H->
 (J.stop i H/\Q e H)∨(J.go i H/\∃N:St->Hp->Prop,(∀c h,N c h->∃M,M<m/\W (i+1) M c h)/\∀x h,J.yld i H x h->g x e h λa f=>T a f λb d=>if b=true then t D a d N else N a d)
def eM (w:TI)(g:TG)(T:TT)(t:gO):gO:=λD a H Q=>w a H λJ h=>K8 J g T t D a h Q
section
variable {d:Nat}
def Yw (h:∀e s,X.xe e s->False){t:Sem α}{Q:α->Shared->Prop}(H:wpAny (model X.prog X.w) X.A t Q X.xe s'):wpAny (model X.prog X.w) X.A t Q E s':=
 wpAny_mono H (λ_ _ z=>z) λe s' z=>(h e s' z).elim
def BD {t:TE}(x:∀e s,X.xe e s->False)(v:PE X oN t)(g:gens[d+1]? =none):gc X oN gens sc o7 d (eK t):=by intro p s n H D Q k A E I h b;unfold Wk;rw[g];refine cb (cb (Yw x (zQ (v p s n H _ I h) λu o ⟨y,w,f,r,Y,c,z,a⟩=>?_)));refine cb (Yw x (zQ (Oc p o n w (.ref D) [y] (.ref D) [u] (λ_ l=>Q n l) f rfl (.cons r .nil) ⟨D,Y,y,rfl,rfl,c,z,a⟩) λ_ S ⟨_,j,i,_,q⟩=>?_));exact cg (b S n j i q)
def AE {g:TG}{ti:TT}{tm:gO}(Y:∀e s,X.xe e s->False)(Z:X.calm=true)(hg:gens[d]? =some ⟨tg,o8,ifs,0⟩)(ha:∀g',gens[d+1]? =some g'->g'.is_async=0)(M:PG X tg g)(hi:Qs X ifs ti)(hm:gc X oN gens sc o7 d tm)
  {s:Shared}{Q:St->Hp->Prop}{J:It}{it:Addr}{B:Nat->Heap->Prop}(T:Turn X.prog X.w X.K tg J fp it B)(I:Inv X o6 σ H s)(st:B 0 s.heap)(hf:∀b∈fp,wJ X o6 H b)
  (h:K8 J g ti tm D σ H Q){R:Result->Shared->Prop}(hR:∀s' a c,Inv X o6 a c s'->Q a c->R (.ok .next) s'):
  codeAny (model X.prog X.w) X.A (.compLoop (.ListComp oN gens sc o7) d (.ref it) (.ref D) X.env) R s:=by
 obtain⟨W,⟨m0,w0⟩,turn⟩:=h;have S:∀{c:Hp},(∀b∈fp,c b=none)->∀b∈fp,wJ X o6 c b:=λhn b l=>⟨hn b l,(hf b l).2⟩;refine codeAny_loop rfl (λn s'=>∃i a c,Inv X o6 a c s'/\B i s'.heap/\(∀b∈fp,c b=none)/\W i n a c) (λn s3 hI=>?_) m0 ⟨0,σ,H,I,st,λb l=>(hf b l).1,w0⟩;show wpAny _ X.A ((compTurn (.ListComp oN gens sc o7) d (.ref it) (.ref D) X.env).onRaise (λx=>do noteFrame x X.env;theTreesLotGoes x)) _ _ s3
 refine wpAny_noted ?_;rw[Au hg ha];refine cb (wpAny_standAt ?_);obtain⟨i,j,C,I3,ZC,z,w3⟩:=hI;rcases turn i n j C w3 with ⟨stop,qn⟩|⟨go,N,hN,step⟩
 ·refine cb (zQ (T.done X rfl rfl rfl Z i o6 s3 j C _ I3 (S z) ZC stop) λr s4 ⟨L,I4⟩=>?_)
  subst L;exact cg (hR s4 j C I4 qn)
 ·refine cb (zQ (T.item X rfl rfl rfl Z i o6 s3 j C _ I3 (S z) ZC go) λr s4 ⟨u,L,h4⟩=>?_)
  subst L;refine cb (zQ h4 λ_ s5 ⟨x,H5,I5,r5,y5,p,P⟩=>?_);have U:=I5.pinned (S P) (T.obj _ _ p);have back:∀{f:St}{q:Hp}{t:Shared},Inv X (o6++K2 fp s5.heap) f q t->N f q->∃m,m<n/\∃i a c,Inv X o6 a c t/\B i t.heap/\(∀b∈fp,c b=none)/\W i m a c:=λ {f q t} v n7=>by obtain⟨m',hm,w7⟩:=hN f q n7;refine⟨m',hm,i+1,f,q,v.unpinned,T.keep _ _ _ p λb l o e=>(v.pin (b,o) (aP _ (aP _ (Gn l e)))).1,λb l=>?_,w7⟩;obtain⟨o,e,d⟩:=T.obj _ _ p b l;exact(v.pin (b,o) (aP _ (aP _ (Gn l e)))).2.1
  refine cb (Yw Y (zQ (M _ s5 j H5 x u _ U r5 (step x H5 y5)) λ_ s6 ⟨y,H6,I6,q6⟩=>?_));refine cb (Yw Y (zQ (hi _ s6 y H6 _ I6 q6) λok t ⟨q,v,E⟩=>?_));cases ok with
  |false=>exact cg ⟨rfl,back v E⟩|true=>
   rw[ai rfl]at E;exact hm _ t y q D _ _ _ _ v E λs8 σ8 H8 I8 q8=>cg ⟨rfl,back I8 q8⟩
def MK {g:TG}{v:TT}{u:gO}(i:∀e s,X.xe e s->False)(o:X.calm=true)(c:gens[d]? =some ⟨tg,o8,ifs,0⟩)(p:∀g',gens[d+1]? =some g'->g'.is_async=0)(t:PG X tg g)(j:Qs X ifs v)(y:gc X oN gens sc o7 d u)
  {s:Shared}{Q:St->Hp->Prop}{J:It}{r:Addr}{n:Nat->Heap->Prop}(T:Turn X.prog X.w X.K tg J fp r n)(I:Inv X o6 σ H s)(S:n 0 s.heap)(z:∀b∈fp,wJ X o6 H b)
  (h:K8 J g v u D σ H Q){R:Result->Shared->Prop}(q:∀s' a f,Inv X o6 a f s'->Q a f->R (.ok .next) s'):
  codeAny (model X.prog X.w) X.A (.compStart (.ListComp oN gens sc o7) d (.ref r) (.ref D) X.env) R s:=by
 have L:=AE i o c p t j y T I S z h q;refine codeAny_of_tree ?_;show wpAny _ _ ((compStart (.ListComp oN gens sc o7) d (.ref r) (.ref D) X.env).onRaise (λx=>do noteFrame x X.env;standAt theWindowsPlace)) _ _ s
 refine wpAny_notedAt ?_;unfold compStart;have l:(clausesOf (.ListComp oN gens sc o7))[d]? =some ⟨tg,o8,ifs,0⟩:=c;rw[l];show wpAny _ _ (ask >>= _) _ _ s;refine cb (wpAny_askSetting (wpAny_ite ?_))
 split
 ·first
   |exact cb (cg (cg (And.intro rfl L)))
   |exact cg (And.intro rfl L)
 ·first
   |exact cb (wpAny_rule (cb (wpAny_standAt (cb (T.self _ 0 s _ _ S (cg (And.intro rfl L)))))))
   |(refine cb (wpAny_rule ?_);show wpAny _ _ (standAt o8.pos >>= _) _ _ s;exact cb (wpAny_standAt (cb (T.self _ 0 s _ _ S (cg (And.intro rfl L))))))
def BP {w:TI}{g:TG}{C:TT}{B:gO}(b:∀e s,X.xe e s->False)(o:X.calm=true)(c:gens[d+1]? =some ⟨tg,o8,ifs,0⟩)(p:∀g',gens[d+2]? =some g'->g'.is_async=0)(L:PI X tg o8 w)(t:PG X tg g)(n:Qs X ifs C)(M:gc X oN gens sc o7 (d+1) B)
  (j:∀x,foldedSetIterable o8 X.env x=pure x:=by intro _;rfl):gc X oN gens sc o7 d (eM w g C B):=by
 intro P s K H D Q k Q' E I h l;unfold Wk;rw[c];refine cb (Yw b (zQ (L P s K H _ I h) λv s1 U=>?_));refine cb (wpAny_standAt (cb (wpAny_of_eq (j v) ?_)));refine cb (wpAny_holding (Yw b (zQ U λi Z N=>?_)));obtain⟨it,fp,z,J,A,e,r,T,Zh,Y,q⟩:=N;subst e;refine cb (wpAny_runOwn (MK b o c p t n M T r Zh Y q λS a y u f=>?_));exact l S a y u f
end
noncomputable def ZT (n:Nat)(c:bS)(a:St):St:=List.replicate n none++c.map λi=>(a[i]?).join
noncomputable def ZP (M N:bU)(scope:Scope)(n:Nat)(c:bS):Bool:=
 N.length==n+c.length&&(List.range c.length).all λk=>match N[n+k]?,M[c.getD k 0]? with|some x,some y=>x==y&&scope.names.any λz=>z.1==x&&z.2==NameKind.free|_,_=>false
def CO {M:bU}{u:Nat}(h:ZP M N scope u cap=true):(ZT u cap σ).length=N.length/\
  ∀(j:Nat)(x:Str)(v:V),N[j]? =some x->(ZT u cap σ)[j]? =some (some v)->(x,NameKind.free)∈scope.names/\∃i:Nat,M[i]? =some x/\σ[i]? =some (some v):=by
 unfold ZP at h;rw[ak,aK]at h;obtain⟨B,A⟩:=h;refine⟨by unfold ZT;simp[B],λj x v r E=>?_⟩
 unfold ZT at E
 by_cases d:j<u
 ·rw[ah (by simpa using d),bf]at E
  split at E<;>cases E
 ·rw[ar (by simpa using d),bq,av]at E
  cases c:cap[j-u]? with
  |none=>rw[c]at E;cases E|some i=>
   rw[c]at E;have e:(σ[i]?).join=some v:=aE E;have g:j-u<cap.length:=(cj.mp c).1;have H:=cu.mp A (j-u) (cf.mpr g);have p:u+(j-u)=j:=by lia
   rw[p,r]at H;have q:cap.getD (j-u) 0=i:=by rw[aa,c];rfl
   rw[q]at H;cases hm:M[i]? with
   |none=>rw[hm]at H;cases H|some y=>
    rw[hm]at H;rw[ak,aK]at H;obtain⟨n,l⟩:=H;subst n;obtain⟨z,f,a⟩:=List.any_eq_true.mp l;rw[ak,aK,aK]at a;refine⟨?_,i,hm,?_⟩
    ·obtain⟨t,Z⟩:=z
     obtain⟨C,a2⟩:=a;cases C;cases a2;exact f
    ·cases b:σ[i]? with
     |none=>rw[b]at e;cases e|some o=>rw[b]at e;cases o with|none=>cases e|some w=>cases e;rfl
abbrev j5:Value->Shared->Prop:=λ_ _=>False
def Xz (K:Frag)(w:TI)(g:TG)(T:TT)(t:gO)(n:Nat)(c:bS):TE:=λb H Q=>w b H λJ h=>∀D,h D=none->K.lookup D=none->K8 J g T t D (ZT n c b) (upd h D (.lst [])) λ_ a=>Q (.ref D) a
section
variable {wi:TI}{g:TG}{ti:TT}{tm:gO}{nl:Nat}
def UH (hc:X.calm=true)(S:gw X sc)(t:ZP X.N N sc nl cap=true)(ha:∀g',gs[0]? =some g'->g'.is_async=0)(hw:PI X tg o8 wi)
  
  (hin:∀s H fp,Inv X o6 σ H s->(∀b∈fp,wJ X o6 H b)->PG (jz X N sc s H fp j5) tg g/\Qs (jz X N sc s H fp j5) ifs ti/\gc (jz X N sc s H fp j5) oN (⟨tg,o8,ifs,0⟩::gs) sc o7 0 tm)
  {s:Shared}{Q:VK}(I:Inv X o6 σ H s)(h:Xz X.K wi g ti tm nl cap σ H Q)
  {use:Option (Value->Sem Unit)}{Q':bV}
  (r:∀(D C:Addr)(s':Shared)(n:Hp)(m:bX),Inv X o6 σ n s'->Q (.ref D) n->s'.heap.Ns C m->n C=none->C≠X.env.locals->X.s0.heap.objs.size<=C->(∀x c,X.env.cells.lookup x=some c->c≠C)->(∀q∈X.pn++o6,q.1≠C)->
   compPost (model X.prog X.w) X.A X.xe use Q' (.ref D) C (.ok .next) s')
  (hs:∀x,foldedSetIterable o8 X.env x=pure x:=by intro _;rfl):
  wpAny (model X.prog X.w) X.A (comprehension (.ListComp oN (⟨tg,o8,ifs,0⟩::gs) sc o7) sc X.env p (newList []) false (eval o8 X.env) use) Q' X.xe s:=by
 have j:∀y∈sc.names,y.2=.free->∃c,X.env.cells.lookup y.1=some c:=λy Y e=>I.ok.has _ (S.free y Y e);refine wpAny_comprehension_free (use:=use) rfl hs (PD j) S.kind (λy Y e=>by obtain⟨y1,y2⟩:=y;have e':y2=.local:=e;subst e';exact JZ S.nd Y) ?_
 refine zQ (hw o6 s σ H _ I h) λv s1 h1=>zQ h1 λitv s2 h2=>?_;obtain⟨it,fp,tn,J,M,e,I2,T,Zh,f2,q2⟩:=h2;subst e;refine wpAny_newObj_type ?_;have hD:M s2.heap.objs.size=none:=I2.fresh;have hKD:X.K.lookup s2.heap.objs.size=none:=by
  cases ek:X.K.lookup s2.heap.objs.size with|none=>rfl|some o=>exact absurd (aM (I2.kIn _ _ ek)) (aS _)
 have U:=q2 _ hD hKD;generalize Z:({ s2 with heap:=s2.heap.push { cls:=.type "list",data:=.seq ([]:bP).toArray } }:Shared)=s3
 have f:s3={ s2 with heap:=s2.heap.push { cls:=.type "list",data:=.seq ([]:bP).toArray } }:=Z.symm
 have i:Inv X o6 σ (upd M s2.heap.objs.size (.lst [])) s3:=by rw[f];exact I2.laid (t':=s2.toks) (λb u e=>af _ e) (ao _) ⟨by simp,[],0,.nil,aC _ rfl⟩
 have B:∀b∈fp,∃o,s2.heap.get? b=some o:=λb a=>let ⟨o,e,_⟩:=T.obj 0 _ Zh b a;⟨o,e⟩
 have P:s3.heap.objs.size=s2.heap.objs.size+1:=by rw[f];exact bp ..
 have ZC:tn 0 s3.heap:=T.keep _ _ _ Zh λb a o e=>by rw[f];exact af _ e
 have E:∀b∈fp,b<s3.heap.objs.size:=λb a=>by obtain⟨o,e⟩:=B b a;rw[P];exact bg (aM e)
 have L:∀b∈fp,wJ X o6 (upd M s2.heap.objs.size (.lst [])) b:=λb a=>by obtain⟨o,e⟩:=B b a;refine⟨?_,(f2 b a).2⟩;rw[qo (aO (aM e))];exact(f2 b a).1
 generalize upd M s2.heap.objs.size (.lst [])=H3 at i L U;generalize s2.heap.objs.size=D at U ⊢;refine ID ?_;obtain⟨cl,cs⟩:=CO t (σ:=σ);have I4:=Cm (xe:=j5) i S L E cl cs;obtain⟨hgt,hi,hm⟩:=hin s3 H3 fp i L;refine MK (X:=jz X N sc s3 H3 fp j5) (gens:=⟨tg,o8,ifs,0⟩::gs) (d:=0) (λ_ _ z=>z) hc rfl ha hgt hi hm T I4 (T.keep _ _ _ ZC λb a o e=>pushCells_keeps _ _ _ _ (af _ e)) (λb a=>?_) U λs' σ' n l q'=>?_
 ·obtain⟨g1,g2,g3,g4,g5,g6⟩:=L b a
  refine⟨g1,aO (E b a),λz=>?_,.inl a,(I4.ok.exf b a).2,λp hp=>absurd (show p∈([]:bR) from hp) (by simp)⟩
  rcases cm.mp (i.stkSub b z) with e|e
  ·exact g2 e
  ·exact g3 e
 ·have I5:Inv X o6 σ n s':=i.call' l.os l.base l.hok l.bare λb a=>by obtain⟨g1,g2,g3,g4,g5,g6⟩:=L b a;exact⟨g4,g2,g5,g6⟩
  obtain⟨m,hn,_⟩:=l.loc;refine r D _ s' n m I5 q' hn l.free (ne_of_gt i.lt) i.sz (λx c e z=>?_) λq hq z=>?_
  ·obtain⟨v,w⟩:=i.cell x c e
   exact aS _ (aJ w.lt (by rw[z];exact ao _))
  ·exact aS _ (aJ (aM (i.pin q hq).1) (by rw[z];exact ao _))
def A9 (d:X.calm=true)(S:gw X sc)(p:ZP X.N N sc nl cap=true)(i:∀g',gs[0]? =some g'->g'.is_async=0)(w:PI X tg o8 wi)
  (n:∀s H fp,PG (jz X N sc s H fp j5) tg g/\Qs (jz X N sc s H fp j5) ifs ti/\gc (jz X N sc s H fp j5) oN (⟨tg,o8,ifs,0⟩::gs) sc o7 0 tm)
  (c:∀x,foldedSetIterable o8 X.env x=pure x:=by intro _;rfl):PE X (.ListComp oN (⟨tg,o8,ifs,0⟩::gs) sc o7) (Xz X.K wi g ti tm nl cap):=by
 intro P s B H Q I h;rw[eval_ListComp];refine UH (use:=none) d S p i w (λs H fp _ _=>n s H fp) I h (λD C v u m t q y A z r l j=>?_) c;exact⟨m,y,λE a=>⟨.ref D,u,t.turned (t':=v.toks) (λb o f e=>(a.2 b f).trans e) A z (.inr r) l j,rfl,q⟩⟩
def ES {p:Pos}{c:Pos}(P:X.N.Nodup)(j:X.N[i]? =some x)(r:X.env.scope.names.lookup x=some .local)
  (w:swapsWith (.ListComp oN (⟨tg,o8,ifs,0⟩::gs) sc o7) (some (.Name x p)) c.line X.env=pure true)
  (J:X.calm=true)(S:gw X sc)(d:ZP X.N N sc nl cap=true)(M:∀g',gs[0]? =some g'->g'.is_async=0)(hw:PI X tg o8 wi)
  (n:∀s H fp,PG (jz X N sc s H fp j5) tg g/\Qs (jz X N sc s H fp j5) ifs ti/\gc (jz X N sc s H fp j5) oN (⟨tg,o8,ifs,0⟩::gs) sc o7 0 tm)
  (B:∀x,foldedSetIterable o8 X.env x=pure x:=by intro _;rfl):PS X (.Assign [.Name x p] (.ListComp oN (⟨tg,o8,ifs,0⟩::gs) sc o7) c) (X1 (Xz X.K wi g ti tm nl cap) (XC i)):=by
 intro o6 s σ H D I h;rw[exec_Assign_Name_used _ _ _ _ w];refine cb (wpAny_standAt (cb ?_));show wpAny _ X.A (do let _ <- comprehension (.ListComp oN (⟨tg,o8,ifs,0⟩::gs) sc o7) sc X.env _ (newList []) false (eval o8 X.env) (some (assign (.Name x p) X.env))) _ _ s
 refine cb (wpAny_mono (UH (use:=some (assign (.Name x p) X.env)) (Q':=λ_ s'=>SP X o6 D .next s') J S d M hw (λs H fp _ _=>n s H fp) I h (λu C s' H' m Z q hn h1 h2 T t Q=>?_) B) (λ_ s' E=>cg (cg E)) λ_ _ e=>e);show wpAny _ X.A (assign (.Name x p) X.env (.ref u)) _ _ _;refine wpAny_assign_Name (Oe Z P j (.inl r) (v:=.ref u) rfl (λs2 Y ⟨a,y,U⟩=>?_) (.inr r));have l:C≠a:=by
  rcases U with e|e
  ·rw[e];exact h2
  ·exactλz=>t x a e z.symm
 refine⟨m,hn.sameBut y l,λh' f=>⟨_,H',Y.turned (t':=s2.toks) (λb o L e=>(f.2 b L).trans e) h1 h2 (.inr T) t Q,q⟩⟩
end
end L2
namespace Mi
open PySem PySem.Spec PyProof.Rows L2
abbrev jb (e:PySem.Expr)(E:List PySem.Expr)(X:L2.Cx):Prop:=PySem.starEach (e::E) X.env=(false,PySem.eval e X.env)::PySem.starEach E X.env
abbrev yo (x:PySem.Str):Prop:=(x==("__debug__" : PySem.Str))=false
abbrev gM (X:L2.Cx)(x:PySem.Str):Prop:=X.fn x=true∨X.env.scope.names.lookup x=some .local
abbrev kX (p:PySem.Pos)(e:List PySem.Expr)(X:L2.Cx):Prop:=(PySem.backTo p (PySem.starEach e X.env)).any (·.1)=false
inductive W where
 |non|bl (b:Bool)|int (i:Int)|str (x:Str)|tup (xs:List W)|ref (n:Nat)
 |clo (k:Nat) (xs:List W) (P:Obj->Addr->Obj->List V->Prop)
 |xc (x:Str)
 |fn (x:Str)
inductive O where
 |lst (xs:List W)|ro (xs:List W)|dct (kvs:List (Key×W))
 |td (kvs:List (List Int×W))
 |tr (kvs:List (List Int×W))
 |tab (q:Str) (P:Addr)
noncomputable def O.mut:O->Bool
 |.ro _=>false|.tr _=>false|_=>true
abbrev Hx:=List O
abbrev En:=List (Option W)
inductive R (α:Type) where
 |ok (a:α) (A:Hx)|exc (x:Str) (A:Hx)|bad
noncomputable def R.bind {b:Type}(r:R α)(f:α->Hx->R b):R b:=match r with|.ok a A=>f a A|.exc x A=>.exc x A|.bad=>.bad
def R.post (r:R α)(P:α->Hx->Prop)(E:Str->Hx->Prop):Prop:=match r with|.ok a A=>P a A|.exc x A=>E x A|.bad=>False
noncomputable def R.nox (r:R α):R α:=match r with|.ok a A=>.ok a A|.exc _ _=>.bad|.bad=>.bad
section
variable {β:Type}{r:R α}{f:α->Hx->R β}{P Q:α->Hx->Prop}{P':β->Hx->Prop}{E F:Str->Hx->Prop}
def zI {a:α}{A:Hx}:(R.ok a A).bind f=f a A:=rfl
def UG {A:Hx}:(R.exc x A:R α).bind f=.exc x A:=rfl
def zS:(r.bind f).post P' E↔r.post (λa A=>(f a A).post P' E) E:=by cases r<;>exact Iff.rfl
def qw (h:r.post P E)(H:∀a A,P a A->Q a A)(b:∀x A,E x A->F x A):r.post Q F:=by
 cases r with|ok a A=>exact H _ _ h|exc x A=>exact b _ _ h|bad=>exact h
end
abbrev Ev:=En->Hx->R W
inductive zfD (K:Frag)(H:Hp)(R:List V->Prop)(v:V):Prop
 |mk (a:Addr) (vs:List V) (e:v=.ref a) (h:qA K H a vs) (r:R vs)
inductive ze4 (H:Hp)(P:Obj->Addr->Obj->List V->Prop)(R:List V->Prop)(v:V):Prop
 |mk (a:Addr) (ob:Obj) (u:HO) (c:Addr) (oc:Obj) (uc:HO) (vs:List V) (e:v=.ref a) (h1:H a=some (.frz ob u)) (h2:H c=some (.frz oc uc)) (p:P ob c oc vs) (r:R vs)
inductive zeX (R:V->Prop)(Rs:List V->Prop)(vs:List V):Prop
 |mk (v:V) (r:List V) (e:vs=v::r) (h:R v) (t:Rs r)
mutual
def RV (K:Frag)(c:bQ)(H:Hp):W->V->Prop
 |.non,v=>v=.non|.bl b,v=>v=.bl b|.int i,v=>v=.int i|.str x,v=>v=.str x|.tup w,v=>zfD K H (zE K c H w) v|.ref n,v=>∃a,v=.ref a/\c[n]? =some a|.clo _ w P,v=>ze4 H P (zE K c H w) v|.xc x,v=>∃a o u C,v=.ref a/\H a=some (.frz o u)/\o.cls=.ref C/\nsIn K mainGlobals x=some (some (.ref C))|.fn x,v=>∃a,v=.ref a/\nsIn K mainGlobals x=some (some (.ref a))
def zE (K:Frag)(φ:bQ)(H:Hp):List W->List V->Prop
 |[],vs=>vs=[]|w::ws,vs=>zeX (RV K φ H w) (zE K φ H ws) vs
end
structure Le (K:Frag)(φ:bQ)(H:Hp)(oJ:bQ)(H':Hp):Prop where
 ex:∀(n:Nat)(a:Addr),φ[n]? =some a->oJ[n]? =some a
 tp:∀a vs,qA K H a vs->qA K H' a vs
 fr:∀a o,H a=some o->(∀n:Nat,φ[n]?≠some a)->H' a=some o
 nw:∀(n:Nat)(a:Addr),oJ[n]? =some a->φ[n]? =some a∨H a=none
 st:∀a,H' a=none->H a=none
 fz:∀a o u,H a=some (.frz o u)->H' a=some (.frz o u)
def Le.refl {K φ H}:Le K φ H φ H:=⟨λ_ _ h=>h,λ_ _ h=>h,λ_ _ h _=>h,λ_ _ h=>.inl h,λ_ h=>h,λ_ _ _ h=>h⟩
def Le.trans {K φ H oO H1 φ2 H2}(a:Le K φ H oO H1)(b:Le K oO H1 φ2 H2):Le K φ H φ2 H2 where
 ex:=λn x h=>b.ex n x (a.ex n x h)
 tp:=λn x h=>b.tp n x (a.tp n x h)
 fr:=λc o h n=>b.fr c o (a.fr c o h n) λk e=>by
  rcases a.nw k c e with e|e
  ·exact n k e
  ·rw[h]at e;cases e
 nw:=λn c e=>by
  rcases b.nw n c e with e|e
  ·exact a.nw n c e
  ·exact .inr (a.st c e)
 st:=λc e=>a.st c (b.st c e)
 fz:=λc o u h=>b.fz c o u (a.fz c o u h)
def Le.off {K φ H oJ H'}(l:Le K φ H oJ H')(h:H D=some o)(n:∀k:Nat,φ[k]?≠some D):H' D=some o/\∀k:Nat,oJ[k]?≠some D:=
 ⟨l.fr D o h n,λk e=>by
  rcases l.nw k D e with e|e
  ·exact n k e
  ·rw[h]at e;cases e⟩
section
variable {K:Frag}{oJ:bQ}{H':Hp}
structure Qz (K:Frag)(φ:bQ)(H:Hp)(oJ:bQ)(H':Hp):Prop where
 ex:∀(n:Nat)(a:Addr),φ[n]? =some a->oJ[n]? =some a
 tp:∀a vs,qA K H a vs->qA K H' a vs
 fz:∀a o u,H a=some (.frz o u)->H' a=some (.frz o u)
mutual
theorem RV.monoW (l:Qz K φ H oJ H'):∀{w:W}{v:V},RV K φ H w v->RV K oJ H' w v
 |.non,_,h=>h|.bl _,_,h=>h|.int _,_,h=>h|.str _,_,h=>h|.tup p,_,⟨a,g,e,t,r⟩=>⟨a,g,e,l.tp _ _ t,zE.monoW l r⟩|.ref n,_,⟨a,e,f⟩=>⟨a,e,l.ex _ _ f⟩|.clo _ p P,_,⟨a,ob,u,c,b,U,g,e,j,i,d,r⟩=>⟨a,ob,u,c,b,U,g,e,l.fz _ _ _ j,l.fz _ _ _ i,d,zE.monoW l r⟩|.xc x,_,⟨a,o,u,C,e,j,i⟩=>⟨a,o,u,C,e,l.fz _ _ _ j,i⟩|.fn _,_,h=>h
theorem zE.monoW (l:Qz K φ H oJ H'):∀{a:List W}{b:List V},zE K φ H a b->zE K oJ H' a b
 |[],_,h=>h|w::a,_,⟨v,r,e,h,t⟩=>⟨v,r,e,RV.monoW l h,zE.monoW l t⟩
end
def RV.mono {w:W}(h:RV K φ H w v)(l:Le K φ H oJ H'):RV K oJ H' w v:=RV.monoW ⟨l.ex,l.tp,l.fz⟩ h
def zE.mono {w:List W}{v:List V}(h:zE K φ H w v)(l:Le K φ H oJ H'):zE K oJ H' w v:=zE.monoW ⟨l.ex,l.tp,l.fz⟩ h
structure yP (K:Frag)(D:Addr)(φ:bQ)(H:Hp)(oJ:bQ)(H':Hp):Prop where
 ex:∀(n:Nat)(a:Addr),φ[n]? =some a->oJ[n]? =some a
 tp:∀a vs,qA K H a vs->qA K H' a vs
 fr:∀a o,a≠D->H a=some o->(∀n:Nat,φ[n]?≠some a)->H' a=some o
 nw:∀(n:Nat)(a:Addr),oJ[n]? =some a->φ[n]? =some a∨H a=none
 st:∀a,H' a=none->H a=none
 fz:∀a o u,H a=some (.frz o u)->H' a=some (.frz o u)
def yP.refl {D}:yP K D φ H φ H:=⟨λ_ _ h=>h,λ_ _ h=>h,λ_ _ _ h _=>h,λ_ _ h=>.inl h,λ_ h=>h,λ_ _ _ h=>h⟩
def Le.toD {D}(l:Le K φ H oJ H'):yP K D φ H oJ H':=⟨l.ex,l.tp,λa o _ h n=>l.fr a o h n,l.nw,l.st,l.fz⟩
def yP.trans {D oO H1 φ2 H2}(a:yP K D φ H oO H1)(b:yP K D oO H1 φ2 H2):yP K D φ H φ2 H2 where
 ex:=λn x h=>b.ex n x (a.ex n x h)
 tp:=λn x h=>b.tp n x (a.tp n x h)
 fr:=λc o N h n=>b.fr c o N (a.fr c o N h n) λk e=>by
  rcases a.nw k c e with e|e
  ·exact n k e
  ·rw[h]at e;cases e
 nw:=λn c e=>by
  rcases b.nw n c e with e|e
  ·exact a.nw n c e
  ·exact .inr (a.st c e)
 st:=λc e=>a.st c (b.st c e)
 fz:=λc o u h=>b.fz c o u (a.fz c o u h)
def RV.monoD {D}{w:W}(h:RV K φ H w v)(l:yP K D φ H oJ H'):RV K oJ H' w v:=RV.monoW ⟨l.ex,l.tp,l.fz⟩ h
def zE.monoD {D}{w:List W}{v:List V}(h:zE K φ H w v)(l:yP K D φ H oJ H'):zE K oJ H' w v:=zE.monoW ⟨l.ex,l.tp,l.fz⟩ h
theorem zE.length:∀{a:List W}{b:List V},zE K φ H a b->a.length=b.length
 |[],_,h=>by cases h;rfl|w::a,_,⟨v,r,e,_,t⟩=>by subst e;simp[zE.length t]
theorem zE.get:∀{a:List W}{b:List V}{i:Nat}{w:W},zE K φ H a b->a[i]? =some w->∃v,b[i]? =some v/\RV K φ H w v
 |[],_,_,_,_,e=>by simp at e|w::a,_,0,_,⟨v,r,e,h,t⟩,q=>by subst e;simp at q;subst q;exact⟨v,by simp,h⟩|w::a,_,i+1,x,⟨v,r,e,h,t⟩,q=>by
  subst e;obtain⟨y,d,c⟩:=zE.get (i:=i) (w:=x) t (by simpa using q)
  exact⟨y,by simpa using d,c⟩
theorem zE.append:∀{a u:List W}{b x:List V},zE K φ H a b->zE K φ H u x->zE K φ H (a++u) (b++x)
 |[],_,_,_,h,t=>by cases h;exact t|w::a,_,_,_,⟨v,r,e,h,t⟩,T=>by subst e;exact⟨v,r++_,rfl,h,zE.append t T⟩
def zE.one {w:W}(h:RV K φ H w v):zE K φ H [w] [v]:=⟨v,[],rfl,h,rfl⟩
def zE.nil:zE K φ H [] []:=rfl
def zE.cons {w:W}{v:V}{a:List W}{vs:List V}(h:RV K φ H w v)(t:zE K φ H a vs):zE K φ H (w::a) (v::vs):=⟨v,vs,rfl,h,t⟩
theorem zE.set {w:W}(q:RV K φ H w v):∀{b:List W}{c:List V}(i:Nat),zE K φ H b c->zE K φ H (b.set i w) (c.set i v)
 |[],_,_,h=>by cases h;exact rfl|_::_,_,0,⟨a,r,e,h,t⟩=>by subst e;exact⟨v,r,rfl,q,t⟩|_::_,_,i+1,⟨a,r,e,h,t⟩=>by subst e;exact⟨a,_,rfl,h,zE.set q i t⟩
theorem zE.drop:∀{w:List W}{a:List V}(n:Nat),zE K φ H w a->zE K φ H (w.drop n) (a.drop n)
 |[],_,n,h=>by cases h;rw[List.drop_nil,List.drop_nil];exact zE.nil|_::_,_,0,h=>by simpa using h|_::_,_,n+1,⟨v,r,e,h,t⟩=>by subst e;simpa using zE.drop n t
theorem zE.take:∀{w:List W}{a:List V}(n:Nat),zE K φ H w a->zE K φ H (w.take n) (a.take n)
 |[],_,n,h=>by cases h;rw[List.take_nil,List.take_nil];exact zE.nil|_::_,_,0,h=>by rw[take_zero,take_zero];exact zE.nil|_::_,_,n+1,⟨v,r,e,h,t⟩=>by subst e;exact⟨v,_,rfl,h,zE.take n t⟩
theorem zE.erase:∀{w:List W}{a:List V}(n:Nat),zE K φ H w a->zE K φ H (w.eraseIdx n) (a.eraseIdx n)
 |[],_,n,h=>by cases h;rw[List.eraseIdx_nil,List.eraseIdx_nil];exact zE.nil|_::_,_,0,⟨v,r,e,h,t⟩=>by subst e;simpa using t|_::_,_,n+1,⟨v,r,e,h,t⟩=>by subst e;exact⟨v,_,rfl,h,zE.erase n t⟩
theorem zE.ints:∀{ns:bN}{vs:List V},zE K φ H (ns.map W.int) vs↔vs=ns.map V.int
 |[],vs=>Iff.rfl|n::ns,vs=>by
  constructor
  ·rintro⟨v,r,e,h,t⟩
   rw[e,(show v=V.int n from h),zE.ints.mp t];rfl
  ·intro e
   exact⟨V.int n,ns.map V.int,e,rfl,zE.ints.mpr rfl⟩
def YV (K:Frag)(H:Hp)(a:Addr)(x:List V):Prop:=
 (∃ob,H a=some (.frz ob (.lst x)))∨
  ∃(o:Obj) (oI:Array Value) (n:Nat),K.lookup a=some o/\o.cls=.type "list" /\ o.dict=none/\o.data=.seq oI n/\oI.size<=sizeLine/\Vals x oI.toList
def YV.sq (h:YV K H a xs):qS K H a xs:=by
 rcases h with h|h
 ·exact .inl (.inr h)
 ·exact .inr h
inductive TabAt (H:Hp)(q:Str)(cv:Value):Prop
 |mk (c:Addr) (oc:Obj) (u:HO) (vs:Array Value) (t:Tok) (e:cv=.ref c) (h:H c=some (.frz oc u)) (d:oc.data=.fields vs/\vs[1]? =some (.str q t))
def Wz (H:Hp)(q:Str)(ps:Array Value):Prop:=TriplesOk ps.toList/\∀p c,codeAmong p ps.toList=some c->TabAt H q c
def Wz.mono {q:Str}{ps:Array Value}(h:Wz H q ps)(l:∀a o u,H a=some (.frz o u)->H' a=some (.frz o u)):Wz H' q ps:=
 ⟨h.1,λp C e=>by obtain⟨c,b,u,v,t,g,f,d⟩:=h.2 p C e;exact⟨c,b,u,v,t,g,l _ _ _ f,d⟩⟩
noncomputable def hT (K:bN):Int:=reduceHash (Builtin.Tuple.tupleHashOf (K.map hashInt))
def eN (a:Addr)(X:List (List Int×Addr×V))(h:Heap):Prop:=(a==sysModules)=false/\X.length<=sizeLine/\∃z:List (List Int×Addr×Value),
 Paired (λ(p:List Int×Addr×V) (q:List Int×Addr×Value)=>p.1=q.1/\p.2.1=q.2.1/\RelV p.2.2 q.2.2) X z/\
 ∃o e E,h.get? a=some o/\o.ExactDict/\o.data=.dict e E/\e.toList=z.map (λx=>(⟨hT x.1,.ref x.2.1,x.2.2⟩:DictEntry))/\(z.map (·.1)).Nodup
def eO (a:Addr)(X:List (List Int×Addr×V))(o:Obj):Prop:=(a==sysModules)=false/\X.length<=sizeLine/\∃z:List (List Int×Addr×Value),
 Paired (λ(p:List Int×Addr×V) (q:List Int×Addr×Value)=>p.1=q.1/\p.2.1=q.2.1/\RelV p.2.2 q.2.2) X z/\
 ∃e E,o.ExactDict/\o.data=.dict e E/\e.toList=z.map (λx=>(⟨hT x.1,.ref x.2.1,x.2.2⟩:DictEntry))/\(z.map (·.1)).Nodup
def OR (K:Frag)(c:bQ)(H:Hp)(a:Addr):O->Prop
 |.lst w=>∃v,H a=some (.lst v)/\zE K c H w v|.ro w=>∃v,YV K H a v/\zE K c H w v|.dct b=>∃U,H a=some (.dK U)/\U.map (·.1)=b.map (·.1)/\zE K c H (b.map (·.2)) (U.map (·.2))|.td b=>∃X:List (List Int×Addr×V),H a=some (.ext (eN a X))/\X.map (·.1)=b.map (·.1)/\(∀x∈X,qA K H x.2.1 (x.1.map V.int))/\zE K c H (b.map (·.2)) (X.map (·.2.2))|.tr b=>∃(ob:Obj) (u:HO) (X:List (List Int×Addr×V)),H a=some (.frz ob u)/\eO a X ob/\X.map (·.1)=b.map (·.1)/\(∀x∈X,qA K H x.2.1 (x.1.map V.int))/\zE K c H (b.map (·.2)) (X.map (·.2.2))|.tab q P=>a=P/\∃ps,H a=some (.tbl ps)/\Wz H q ps
structure zL (K:Frag)(φ:bQ)(A:Hx)(H:Hp):Prop where
 len:φ.length=A.length
 inj:∀(i j:Nat)(a:Addr)(o o':O),φ[i]? =some a->φ[j]? =some a->A[i]? =some o->A[j]? =some o'->o.mut=true->o'.mut=true->i=j
 ob:∀(n:Nat)(o:O),A[n]? =some o->∃a,φ[n]? =some a/\OR K φ H a o
variable {A:Hx}
def OR.there {o:O}(h:OR K φ H a o)(m:o.mut=true):∃u,H a=some u/\(∀x,u≠.tup x)/\(∀ob v,u≠.frz ob v):=by
 cases o with|lst w=>obtain⟨b,e,_⟩:=h;exact⟨_,e,λ_ z=>(by cases z),λ_ _ z=>(by cases z)⟩|ro w=>cases m|dct c=>obtain⟨b,e,_⟩:=h;exact⟨_,e,λ_ z=>(by cases z),λ_ _ z=>(by cases z)⟩|td c=>obtain⟨b,e,_⟩:=h;exact⟨_,e,λ_ z=>(by cases z),λ_ _ z=>(by cases z)⟩|tr _=>cases m|tab q P=>obtain⟨_,b,e,_⟩:=h;exact⟨_,e,λ_ z=>(by cases z),λ_ _ z=>(by cases z)⟩
def G2 (h:qA K H a vs)(n:∀x,H b≠some (.tup x))(N:∀ob u,H b≠some (.frz ob u)):qA K (upd H b o) a vs:=by
 rcases h with (h|⟨ob,h⟩)|h
 ·exact .inl (.inl (by rw[qo];exact h;intro e;subst e;exact n _ h))
 ·exact .inl (.inr ⟨ob,by rw[qo];exact h;intro e;subst e;exact N _ _ h⟩)
 ·exact .inr h
theorem Le.upd {k:Nat}(c:φ[k]? =some b)(n:∀x,H b≠some (.tup x))(N:∀ob u,H b≠some (.frz ob u)):Le K φ H φ (upd H b o) where
 ex:=λ_ _ h=>h
 tp:=λ_ _ h=>G2 h n N
 fr:=λa u h z=>by rw[qo];exact h;intro e;subst e;exact z k c
 nw:=λ_ _ h=>.inl h
 st:=λa h=>by
  by_cases e:a=b
  ·subst e;rw[jR]at h;cases h
  ·rw[qo e]at h;exact h
 fz:=λa ob u h=>by rw[qo];exact h;intro e;subst e;exact N _ _ h
def Le.new {p:Addr}(b:H p=none):Le K φ H φ (L2.upd H p o) where
 ex:=λ_ _ h=>h
 tp:=λ_ _ h=>G2 h (λx z=>by rw[b]at z;cases z) (λ_ _ z=>by rw[b]at z;cases z)
 fr:=λa u h z=>by rw[qo];exact h;intro e;subst e;rw[b]at h;cases h
 nw:=λ_ _ h=>.inl h
 st:=λa h=>by
  by_cases e:a=p
  ·subst e;rw[jR]at h;cases h
  ·rw[qo e]at h;exact h
 fz:=λa ob u h=>by rw[qo];exact h;intro e;subst e;rw[b]at h;cases h
def Le.alloc {p:Addr}(b:H p=none):Le K φ H (φ++[p]) (L2.upd H p o) where
 ex:=λn a h=>by
  have:=(cj.mp h).1
  rw[ah this];exact h
 tp:=(Le.new (φ:=φ) b).tp
 fr:=(Le.new (K:=K) (φ:=φ) b).fr
 nw:=λn a h=>by
  by_cases c:n < φ.length
  ·rw[ah c]at h;exact .inl h
  ·rw[ar (by lia)]at h
   have e:a=p:=by
    have:=aV h
    simpa using this
   subst e;exact .inr b
 st:=(Le.new (K:=K) (φ:=φ) b).st
 fz:=(Le.new (K:=K) (φ:=φ) b).fz
def Le.ofD (b:H D=none)(l:yP K D φ (L2.upd H D o) oJ H'):Le K φ H oJ H' where
 ex:=l.ex
 tp:=λa v h=>l.tp a v ((Le.new (K:=K) (φ:=φ) b).tp a v h)
 fr:=λa u h n=>by
  have N:a≠D:=by rintro rfl;rw[b]at h;cases h
  exact l.fr a u N (by rw[qo N];exact h) n
 nw:=λn a e=>by
  rcases l.nw n a e with e|e
  ·exact .inl e
  ·by_cases h:a=D
   ·subst h;rw[jR]at e;cases e
   ·rw[qo h]at e;exact .inr e
 st:=λa e=>by
  have E:=l.st a e
  by_cases h:a=D
  ·subst h;rw[jR]at E;cases E
  ·rw[qo h]at E;exact E
 fz:=λa ob u h=>l.fz a ob u (by rw[qo];exact h;rintro rfl;rw[b]at h;cases h)
theorem yP.upd (b:H D=some (.lst xs)):yP K D φ H φ (L2.upd H D o) where
 ex:=λ_ _ h=>h
 tp:=λa v h=>G2 h (λxs z=>by rw[b]at z;cases z) (λ_ _ z=>by rw[b]at z;cases z)
 fr:=λa u N h n=>by rw[qo N];exact h
 nw:=λ_ _ h=>.inl h
 st:=λa e=>by
  by_cases h:a=D
  ·subst h;rw[jR]at e;cases e
  ·rw[qo h]at e;exact e
 fz:=λa ob u h=>by rw[qo];exact h;intro e;subst e;rw[b]at h;cases h
def OR.keep {o:O}(h:OR K φ H a o)(l:Le K φ H oJ H')(e:∀u,H a=some u->H' a=some u):OR K oJ H' a o:=by
 cases o with
 |lst w=>obtain⟨v,q,r⟩:=h;exact⟨v,e _ q,r.mono l⟩|dct c=>obtain⟨v,q,k,r⟩:=h;exact⟨v,e _ q,k,r.mono l⟩|td c=>obtain⟨v,q,k,t,r⟩:=h;exact⟨v,e _ q,k,λx b=>l.tp _ _ (t x b),r.mono l⟩|tr c=>obtain⟨ob,u,v,q,d,k,t,r⟩:=h;exact⟨ob,u,v,e _ q,d,k,λx b=>l.tp _ _ (t x b),r.mono l⟩|tab q P=>obtain⟨k,ps,q,r⟩:=h;exact⟨k,ps,e _ q,r.mono l.fz⟩|ro w=>
  obtain⟨v,q,r⟩:=h;refine⟨v,?_,r.mono l⟩;rcases q with ⟨ob,q⟩|q
  ·exact .inl ⟨ob,e _ q⟩
  ·exact .inr q
theorem zL.alloc {p:Addr}{u:HO}{o:O}(S:zL K φ A H)(g:H p=none)(new:OR K (φ++[p]) (L2.upd H p u) p o):Le K φ H (φ++[p]) (L2.upd H p u)/\zL K (φ++[p]) (A++[o]) (L2.upd H p u):=by
 have l:Le K φ H (φ++[p]) (L2.upd H p u):=Le.alloc g;have C:∀(i:Nat) a,(φ++[p])[i]? =some a->i<A.length->φ[i]? =some a:=λi a e b=>by rw[ah (by rw[S.len];exact b)]at e;exact e
 refine⟨l,by simp[S.len],λi j a x w I D f c J M=>?_,λn L e=>?_⟩
 ·by_cases b:i<A.length
  ·by_cases d:j<A.length
   ·rw[ah b]at f
    rw[ah d]at c;exact S.inj i j a x w (C i a I b) (C j a D d) f c J M
   ·exfalso
    rw[ah b]at f;have t:j=A.length:=by have:=(cj.mp c).1;simp at this;lia
    subst t;rw[ar (by rw[S.len];exact ao _),S.len]at D
    simp at D;obtain⟨B,E,q⟩:=S.ob i x f;rw[C i a I b]at E;cases E;obtain⟨z,h,_⟩:=q.there J;rw[<- D,g]at h;cases h
  ·have v:i=A.length:=by have:=(cj.mp f).1;simp at this;lia
   by_cases d:j<A.length
   ·exfalso
    rw[ah d]at c;subst v;rw[ar (by rw[S.len];exact ao _),S.len]at I
    simp at I;obtain⟨B,E,q⟩:=S.ob j w c;rw[C j a D d]at E;cases E;obtain⟨z,h,_⟩:=q.there M;rw[<- I,g]at h;cases h
   ·have:=(cj.mp c).1;simp at this;lia
 ·by_cases N:n<A.length
  ·rw[ah N]at e
   obtain⟨a,E,q⟩:=S.ob n L e;refine⟨a,l.ex _ _ E,q.keep l λz h=>?_⟩;rw[qo];exact h;intro y;subst y;rw[g]at h;cases h
  ·have r:n=A.length:=by have:=(cj.mp e).1;simp at this;lia
   subst r;rw[ar (ao _)]at e;simp at e;subst e;exact⟨p,by rw[ar (by rw[S.len];exact ao _),S.len];simp,new⟩
def zL.write {p:Addr}{u:HO}{o o':O}(S:zL K φ A H)(Z:A[n]? =some o)(m:o.mut=true)(U:o'.mut=true)(c:φ[n]? =some p)(new:OR K φ (L2.upd H p u) p o'):
  Le K φ H φ (L2.upd H p u)/\zL K φ (A.set n o') (L2.upd H p u):=by
 obtain⟨T,e,q⟩:=S.ob n o Z;rw[c]at e;cases e;obtain⟨z,h,I,N⟩:=q.there m;have l:Le K φ H φ (L2.upd H p u):=Le.upd c (λxs e=>by rw[h]at e;exact I xs (aE e)) λob v e=>by rw[h]at e;exact N ob v (aE e)
 have mt:∀(i:Nat)(w:O),(A.set n o')[i]? =some w->w.mut=true->∃f,A[i]? =some f/\f.mut=true:=λi w e M=>by
  by_cases X:i=n
  ·subst X;exact⟨o,Z,m⟩
  ·rw[au (Ne.symm X)]at e;exact⟨w,e,M⟩
 refine⟨l,by simp[S.len],λi j a D C h1 h2 P L m1 m2=>?_,λi w e=>?_⟩
 ·obtain⟨y,E,k1⟩:=mt i D P m1
  obtain⟨g,Q,k2⟩:=mt j C L m2;exact S.inj i j a y g h1 h2 E Q k1 k2
 ·by_cases X:i=n
  ·subst X
   have:i<A.length:=(cj.mp Z).1
   rw[aw this]at e;cases e;exact⟨p,c,new⟩
  ·rw[au (Ne.symm X)]at e
   obtain⟨a,E,r⟩:=S.ob i w e;refine⟨a,E,?_⟩
   by_cases Y:w.mut=true
   ·have ne:a≠p:=λz=>X (S.inj i n a w o E (by rw[z];exact c) e Z Y m)
    exact r.keep l λz h=>by rw[qo ne];exact h
   ·cases w with
    |lst _=>exact absurd rfl Y|dct _=>exact absurd rfl Y|td _=>exact absurd rfl Y|tr _=>obtain⟨ob,u,vs,q,d,k,t,r⟩:=r;exact⟨ob,u,vs,l.fz _ _ _ q,d,k,λx J=>l.tp _ _ (t x J),r.mono l⟩|tab _ _=>exact absurd rfl Y|ro ws=>
     obtain⟨vs,b,B⟩:=r;refine⟨vs,?_,B.mono l⟩;rcases b with ⟨ob,b⟩|b
     ·refine .inl ⟨ob,?_⟩
      rw[qo];exact b;intro z;subst z;rw[h]at b;exact N _ _ (aE b)
     ·exact .inr b
def zL.lay {p:Addr}{u:HO}(S:zL K φ A H)(b:H p=none):zL K φ A (L2.upd H p u):=
 ⟨S.len,S.inj,λn o e=>by obtain⟨a,c,q⟩:=S.ob n o e;refine⟨a,c,q.keep (Le.new b) λz h=>?_⟩;rw[qo];exact h;intro E;subst E;rw[b]at h;cases h⟩
def zL.off (S:zL K φ A H)(b:H D=some (.lst xs))(n:∀k:Nat,φ[k]?≠some D):zL K φ A (L2.upd H D o):=
 ⟨S.len,S.inj,λk u e=>by
  obtain⟨a,E,q⟩:=S.ob k u e;have N:a≠D:=λz=>n k (by rw[<- z];exact E)
  have l:yP K D φ H φ (L2.upd H D o):=yP.upd b;refine⟨a,E,?_⟩;cases u with
  |lst w=>obtain⟨v,q,r⟩:=q;exact⟨v,by rw[qo N];exact q,r.monoD l⟩|dct c=>obtain⟨v,q,k,r⟩:=q;exact⟨v,by rw[qo N];exact q,k,r.monoD l⟩|td c=>obtain⟨v,q,k,t,r⟩:=q;exact⟨v,by rw[qo N];exact q,k,λx h=>l.tp _ _ (t x h),r.monoD l⟩|tr c=>obtain⟨ob,u,v,q,d,k,t,r⟩:=q;exact⟨ob,u,v,l.fz _ _ _ q,d,k,λx h=>l.tp _ _ (t x h),r.monoD l⟩|tab _ _=>obtain⟨k,v,q,r⟩:=q;exact⟨k,v,by rw[qo N];exact q,r.mono l.fz⟩|ro w=>
   obtain⟨v,q,r⟩:=q;refine⟨v,?_,r.monoD l⟩;rcases q with ⟨ob,q⟩|q
   ·exact .inl ⟨ob,by rw[qo N];exact q⟩
   ·exact .inr q⟩
def zL.notin (S:zL K φ A H)(b:H D=none)(d:K.lookup D=none):∀k:Nat,φ[k]?≠some D:=λk e=>by
 have c:k<A.length:=by rw[<- S.len];exact(cj.mp e).1
 obtain⟨a,E,q⟩:=S.ob k A[k] (by simp[c])
 rw[e]at E;cases E;cases h:A[k] with
 |lst w=>rw[h]at q;obtain⟨v,z,_⟩:=q;rw[b]at z;cases z|dct w=>rw[h]at q;obtain⟨v,z,_⟩:=q;rw[b]at z;cases z|td _=>rw[h]at q;obtain⟨v,z,_⟩:=q;rw[b]at z;cases z|tr _=>rw[h]at q;obtain⟨_,_,_,z,_⟩:=q;rw[b]at z;cases z|tab _ _=>rw[h]at q;obtain⟨_,v,z,_⟩:=q;rw[b]at z;cases z|ro w=>
  rw[h]at q;obtain⟨v,z,_⟩:=q;rcases z with ⟨ob,z⟩|⟨o,i,n,z,_⟩
  ·rw[b]at z;cases z
  ·rw[d]at z;cases z
def zL.YB {u:HO}{o:O}(S:zL K φ A H)(I:H D=some u)(n:∀k:Nat,φ[k]?≠some D)(new:OR K (φ++[D]) H D o):zL K (φ++[D]) (A++[o]) H:=by
 have l:Qz K φ H (φ++[D]) H:=⟨λn a h=>by
  have:=(cj.mp h).1
  rw[ah this];exact h,λ_ _ h=>h,λ_ _ _ h=>h⟩
 have L:∀(i:Nat) a,(φ++[D])[i]? =some a->i<A.length->φ[i]? =some a:=λi a e b=>by rw[ah (by rw[S.len];exact b)]at e;exact e
 have M:∀a,(φ++[D])[A.length]? =some a->a=D:=λa e=>by
  rw[ar (by rw[S.len];exact ao _),S.len]at e
  simpa using e.symm
 refine⟨by simp[S.len],λi j a C B P N y f X U=>?_,λk T e=>?_⟩
 ·by_cases b:i<A.length
  ·by_cases c:j<A.length
   ·rw[ah b]at y
    rw[ah c]at f;exact S.inj i j a C B (L i a P b) (L j a N c) y f X U
   ·exfalso
    have v:j=A.length:=by have:=(cj.mp f).1;simp at this;lia
    subst v;exact n i (by rw[<- M a N];exact L i a P b)
  ·have w:i=A.length:=by have:=(cj.mp y).1;simp at this;lia
   by_cases c:j<A.length
   ·exfalso
    subst w;exact n j (by rw[<- M a P];exact L j a N c)
   ·have:=(cj.mp f).1;simp at this;lia
 ·by_cases Y:k<A.length
  ·rw[ah Y]at e
   obtain⟨a,E,q⟩:=S.ob k T e;refine⟨a,l.ex _ _ E,?_⟩;cases T with|lst Q=>obtain⟨J,z,r⟩:=q;exact⟨J,z,r.monoW l⟩|dct Q=>obtain⟨J,z,Z,r⟩:=q;exact⟨J,z,Z,r.monoW l⟩|td _=>obtain⟨J,z,Z,t,r⟩:=q;exact⟨J,z,Z,λx g=>l.tp _ _ (t x g),r.monoW l⟩|tr _=>obtain⟨ob,u,J,z,d,Z,t,r⟩:=q;exact⟨ob,u,J,z,d,Z,λx g=>l.tp _ _ (t x g),r.monoW l⟩|tab _ _=>exact q|ro Q=>obtain⟨J,z,r⟩:=q;exact⟨J,z,r.monoW l⟩
  ·have p:k=A.length:=by have:=(cj.mp e).1;simp at this;lia
   subst p;rw[ar (ao _)]at e;simp at e;subst e;exact⟨D,by rw[ar (by rw[S.len];exact ao _),S.len];simp,new⟩
def Le.YB {b:bQ}{c:Hp}(l:Le K b c φ H)(g:c D=none):Le K b c (φ++[D]) H where
 ex:=λn a h=>by
  have d:=l.ex n a h
  have:=(cj.mp d).1
  rw[ah this];exact d
 tp:=l.tp
 fr:=l.fr
 nw:=λn a e=>by
  by_cases f:n < φ.length
  ·rw[ah f]at e;exact l.nw n a e
  ·rw[ar (by lia)]at e
   have E:a=D:=by
    have:=aV e
    simpa using this
   subst E;exact .inr g
 st:=l.st
 fz:=l.fz
end
abbrev St:=L2.St
abbrev XR:=Str->Hp->Prop
def PB (K:Frag)(b:bQ)(H:Hp)(Q:VK):W->Hx->Prop:=λw A=>∀a h v,Le K b H a h->zL K a A h->RV K a h w v->Q v h
def eQ (K:Frag)(b:bQ)(H:Hp)(Q:List V->Hp->Prop):List W->Hx->Prop:=λw A=>∀a h v,Le K b H a h->zL K a A h->zE K a h w v->Q v h
def EB (K:Frag)(b:bQ)(H:Hp)(X:XR):Str->Hx->Prop:=λx A=>∀a h,Le K b H a h->zL K a A h->X x h
structure RE (K:Frag)(φ:bQ)(H:Hp)(ρ:En)(σ:St):Prop where
 len:σ.length=ρ.length
 get:∀(i:Nat)(w:W),ρ[i]? =some (some w)->∃v,σ[i]? =some (some v)/\RV K φ H w v
section
variable {K:Frag}{oO oJ:bQ}{H1 H':Hp}{A:Hx}{ρ:En}{xr:XR}
theorem RE.mono (r:RE K φ H ρ σ)(l:Le K φ H oJ H'):RE K oJ H' ρ σ:=⟨r.len,λi w e=>let ⟨v,a,h⟩:=r.get i w e;⟨v,a,h.mono l⟩⟩
def PB.mono {Q:VK}{w:W}(h:PB K φ H Q w A)(l:Le K φ H oO H1):PB K oO H1 Q w A:=λa b v L=>h a b v (l.trans L)
def EB.mono (h:EB K φ H xr x A)(l:Le K φ H oO H1):EB K oO H1 xr x A:=λa b L=>h a b (l.trans L)
theorem RE.set {w:W}(r:RE K φ H ρ σ)(q:RV K φ H w v):RE K φ H (ρ.set i (some w)) (σ.set i (some v)):=
 ⟨by simp[r.len],λj u e=>by
  by_cases h:i=j
  ·subst h
   have a:i < ρ.length:=by
    have:=(cj.mp e).1
    simpa using this
   rw[aw a]at e;cases e;exact⟨v,by rw[aw (by rw[r.len];exact a)],q⟩
  ·rw[au h]at e
   obtain⟨x,c,b⟩:=r.get j u e;exact⟨x,by rw[au h];exact c,b⟩⟩
end
inductive MM (K:Frag)(xr:XR)(m:Ev)(σ:St)(H:Hp)(Q:VK):Prop
 |mk (φ:bQ) (A:Hx) (ρ:En) (S:zL K φ A H) (re:RE K φ H ρ σ) (h:(m ρ A).post (PB K φ H Q) (EB K φ H xr))
def tM (K:Frag)(x:XR)(m:Ev):TE:=λa H Q=>MM K x m a H Q
inductive MT (K:Frag)(xr:XR)(m:Ev)(σ:St)(H:Hp)(Q:Bool->Hp->Prop):Prop
 |mk (φ:bQ) (A:Hx) (ρ:En) (S:zL K φ A H) (re:RE K φ H ρ σ) (h:(m ρ A).post (λw A'=>∃b,w=.bl b/\∀oJ H',Le K φ H oJ H'->zL K oJ A' H'->Q b H') (EB K φ H xr))
def tT (K:Frag)(x:XR)(m:Ev):TT:=λa H Q=>MT K x m a H Q
abbrev Ea:=En->Hx->R (List W)
inductive MA (K:Frag)(xr:XR)(m:Ea)(σ:St)(H:Hp)(Q:List V->Hp->Prop):Prop
 |mk (φ:bQ) (A:Hx) (ρ:En) (S:zL K φ A H) (re:RE K φ H ρ σ) (h:(m ρ A).post (eQ K φ H Q) (EB K φ H xr))
def Vm (K:Frag)(x:XR)(m:Ea):TA:=λa H Q=>MA K x m a H Q
def SE (X:Cx)(x:XR)(e:Expr)(m:Ev):Prop:=PE X e (tM X.K x m)
def ST (X:Cx)(x:XR)(e:Expr)(m:Ev):Prop:=PT X e (tT X.K x m)
def SW (X:Cx)(x:XR)(e:Expr)(m:Ev):Prop:=PW X e (tT X.K x m)
def SA (X:Cx)(x:XR)(e:bW)(m:Ea):Prop:=PA X e (Vm X.K x m)
section
variable {xr:XR}{a b:Expr}{m ma mb mc:Ev}
def PE.imp {t T:TE}(h:PE X e t)(i:∀σ H Q,T σ H Q->t σ H Q):PE X e T:=λp s σ H Q I w=>h p s σ H Q I (i σ H Q w)
def PT.imp {t T:TT}(h:PT X e t)(i:∀σ H Q,T σ H Q->t σ H Q):PT X e T:=λp s σ H Q I w=>h p s σ H Q I (i σ H Q w)
def PW.imp {t T:TT}(h:PW X e t)(i:∀σ H Q,T σ H Q->t σ H Q):PW X e T:=λw p s σ H Q I a=>h w p s σ H Q I (i σ H Q a)
def PA.imp {t T:TA}(h:PA X es t)(i:∀σ H Q,T σ H Q->t σ H Q):PA X es T:=λp P s σ H Q I w=>h p P s σ H Q I (i σ H Q w)
def tM.go {K:Frag}{A:Hx}{c:En}{Q:VK}{G:W->Hx->Prop}(S:zL K φ A H)(r:RE K φ H c σ)(h:(m c A).post G (EB K φ H xr))
  (k:∀w A1 a b v,G w A1->Le K φ H a b->zL K a A1 b->RV K a b w v->Q v b):tM K xr m σ H Q:=
 ⟨φ,A,c,S,r,qw h (λw A1 g a b v l s q=>k w A1 a b v g l s q) λ_ _ z=>z⟩
def Vm.go {K:Frag}{A:Hx}{c:En}{m:Ea}{Q:List V->Hp->Prop}{G:List W->Hx->Prop}(S:zL K φ A H)(r:RE K φ H c σ)(h:(m c A).post G (EB K φ H xr))
  (k:∀w A1 a b v,G w A1->Le K φ H a b->zL K a A1 b->zE K a b w v->Q v b):Vm K xr m σ H Q:=
 ⟨φ,A,c,S,r,qw h (λw A1 g a b v l s q=>k w A1 a b v g l s q) λ_ _ z=>z⟩
def tT.go {K:Frag}{A:Hx}{c:En}{Q:Bool->Hp->Prop}{G:W->Hx->Prop}(S:zL K φ A H)(r:RE K φ H c σ)(h:(m c A).post G (EB K φ H xr))
  (k:∀w A1,G w A1->∃b,w=.bl b/\∀a d,Le K φ H a d->zL K a A1 d->Q b d):tT K xr m σ H Q:=
 ⟨φ,A,c,S,r,qw h (λw A1 g=>k w A1 g) λ_ _ z=>z⟩
noncomputable def zM (i:Nat):Ev:=λa A=>match a[i]? with|some (some w)=>.ok w A|_=>.bad
noncomputable def qa (w:W):Ev:=λ_ A=>.ok w A
def zj (g:W->W->Hx->R W)(a b:Ev):Ev:=λc A=>(a c A).bind λx e=>(b c e).bind λy d=>g x y d
def yU (g:W->Hx->R W)(a:Ev):Ev:=λb A=>(a b A).bind λx c=>g x c
abbrev Zy:Str->Hx->Prop:=λ_ _=>False
def yw (K:Frag)(r:R2)(g:W->W->Hx->R W):Prop:=∀a A H x y u v Q,zL K a A H->RV K a H u x->RV K a H v y->(g u v A).post (PB K a H Q) Zy->r x y H Q
def Vi (K:Frag)(r:V->Hp->VK->Prop)(g:W->Hx->R W):Prop:=∀a A H x u Q,zL K a A H->RV K a H u x->(g u A).post (PB K a H Q) Zy->r x H Q
def qT (r:R α):Prop:=∀x A,r≠.exc x A
def Yg {r:R α}{P:α->Hx->Prop}{E:Str->Hx->Prop}(n:qT r)(h:r.post P E):r.post P Zy:=by
 cases r with|ok a A=>exact h|exc x A=>exact absurd rfl (n x A)|bad=>exact h
def zj.read {g:W->W->Hx->R W}{r:R2}(p:∀x y A,qT (g x y A))(e:yw X.K r g):∀σ H Q,tM X.K xr (zj g ma mb) σ H Q->WJ r (tM X.K xr ma) (tM X.K xr mb) σ H Q:=by
 rintro σ H Q ⟨C,A,D,S,n,h⟩
 refine tM.go S n (zS.mp h) λw I b E v u l i d=>?_;refine tM.go i (n.mono l) (qw (zS.mp u) (λ_ _ z=>z) λ_ _ z=>z.mono l) λc B a j o t L f q=>?_;exact e a B j v o w c Q f (d.mono L) q (qw (Yg (p _ _ _) t) (λ_ _ z=>z.mono (l.trans L)) λ_ _ z=>z)
def yU.read {g:W->Hx->R W}{r:V->Hp->VK->Prop}(n:∀x A,qT (g x A))(b:Vi X.K r g):∀σ H Q,tM X.K xr (yU g ma) σ H Q->LU r (tM X.K xr ma) σ H Q:=by
 rintro σ H Q ⟨j,A,o,S,e,h⟩
 refine tM.go S e (zS.mp h) λw i a f v d l c q=>?_;exact b a i f v w Q c q (qw (Yg (n _ _) d) (λ_ _ z=>z.mono l) λ_ _ z=>z)
def Zl {o:Operator}{r:R2}{g:W->W->Hx->R W}(h:qM X (binaryOp o) r)(n:∀x y A,qT (g x y A))(H:yw X.K r g)(d:SE X xr a ma)(c:SE X xr b mb):SE X xr (.BinOp a o b o7) (zj g ma mb):=
 PE.imp (du h d c) (zj.read n H)
def eR {o:UnaryOp}{r:V->Hp->VK->Prop}{g:W->Hx->R W}(h:Vd X (unaryOp o) r)(n:∀x A,qT (g x A))(H:Vi X.K r g)(b:SE X xr a ma):SE X xr (.UnaryOp o a o7) (yU g ma):=
 PE.imp (MY h b) (yU.read n H)
def Mh {r:R2}{g:W->W->Hx->R W}(h:qM X (compareOp op) r)(n:∀x y A,qT (g x y A))(H:yw X.K r g)(d:SE X xr a ma)(c:SE X xr b mb)(e:behindInMarks op b=false):SE X xr (.Compare a [op] [b] o7) (zj g ma mb):=
 PE.imp (dN h d c e) (zj.read n H)
def tT.toM {K:Frag}{Q:Bool->Hp->Prop}(h:tT K xr m σ H Q):tM K xr m σ H λx f=>∃k,x=.bl k/\Q k f:=by obtain⟨i,A,j,S,r,h⟩:=h;refine tM.go S r h λw n a g v ⟨b,e,q⟩ l d c=>?_;subst e;exact⟨b,c,q a g l d⟩
def eS {r:R2}{g:W->W->Hx->R W}(o:qM X (compareOp op) r)(n:∀x y A,qT (g x y A))(c:yw X.K r g)(e:SE X xr a ma)(d:SE X xr b mb)(i:behindInMarks op b=false):ST X xr (.Compare a [op] [b] o7) (zj g ma mb):=
 PT.imp (dO o e d i) λf H Q h=>zj.read n c f H _ h.toM
def wQ (g h:W->W->Hx->R W)(a b c:Ev):Ev:=λf A=>(a f A).bind λx j=>(b f j).bind λy i=>(g x y i).bind λz d=>match z with|.bl true=>(c f d).bind λw e=>h y w e|.bl false=>.ok (.bl false) d|_=>.bad
def wQ.read {g g':W->W->Hx->R W}{r i:R2}(hn:∀x y A,qT (g x y A))(U:yw X.K r g)(n:∀x y A,qT (g' x y A))(o:yw X.K i g'):
  ∀σ H Q,tM X.K xr (wQ g g' ma mb mc) σ H Q->Te r i (tM X.K xr ma) (tM X.K xr mb) (tM X.K xr mc) σ H Q:=by
 rintro σ H Q ⟨φ,A,ρ,S,re,h⟩
 refine tM.go S re (zS.mp h) λw A1 I H1 v h1 L S1 T=>?_;refine tM.go S1 (re.mono L) (qw (zS.mp h1) (λ_ _ z=>z) λ_ _ z=>z.mono L) λf A2 b E v2 h2 C S2 t=>?_;have j:=L.trans C;have p:=zS.mp h2;have a:(g w f A2).post (PB X.K b E λz c=>∃k,z=.bl k/\if k=true then tM X.K xr mc σ c λM q=>i v2 M q Q else Q (.bl false) c) Zy:=by
  refine qw (Yg (hn _ _ _) p) (λz A3 a e c zv B D P=>?_) λ_ _ z=>z;have l:=j.trans B;cases z with
  |bl k=>
   refine⟨k,P,?_⟩;cases k with
   |true=>
    rw[ai rfl];refine tM.go D (re.mono l) (qw (zS.mp a) (λ_ _ z=>z) λ_ _ z=>z.mono l) λJ A4 d q v4 Y u Z N=>?_;exact o d A4 q v2 v4 f J Q Z ((t.mono B).mono u) N (qw (Yg (n _ _ _) Y) (λ_ _ z=>z.mono (l.trans u)) λ_ _ z=>z)
   |false=>
    rw[aj aH];exact a e c _ l D rfl
  |non=>cases a|int _=>cases a|str _=>cases a|tup _=>cases a|ref _=>cases a|clo _ _ _=>cases a|xc _=>cases a|fn _=>cases a
 exact U b A2 E v v2 w f _ S2 (T.mono C) t a
def CW {c:Expr}{o:CmpOp}{r e:R2}{g p:W->W->Hx->R W}(f:qM X (compareOp op) r)(q:∀x y A,qT (g x y A))(i:yw X.K r g)(h:qM X (compareOp o) e)(H:∀x y A,qT (p x y A))(d:yw X.K e p)
  (n:SE X xr a ma)(l:SE X xr b mb)(j:SE X xr c mc)(t:lastMarks [op,o] [b,c]=false:=by with_unfolding_all rfl):SE X xr (.Compare a [op,o] [b,c] o7) (wQ g p ma mb mc):=
 PE.imp (BH f h n l j t) (wQ.read q i H d)
def BR {c:Expr}{o:CmpOp}{r i:R2}{g t:W->W->Hx->R W}(j:qM X (compareOp op) r)(v:∀x y A,qT (g x y A))(l:yw X.K r g)(d:qM X (compareOp o) i)(e:∀x y A,qT (t x y A))(f:yw X.K i t)
  (q:SE X xr a ma)(p:SE X xr b mb)(n:SE X xr c mc)(w:lastMarks [op,o] [b,c]=false:=by with_unfolding_all rfl):ST X xr (.Compare a [op,o] [b,c] o7) (wQ g t ma mb mc):=
 PT.imp (BG j d q p n w) λu H Q h=>wQ.read v l e f u H _ h.toM
def kR (a b:Ev):Ev:=λc A=>(a c A).bind λx d=>match x with|.bl true=>b c d|.bl false=>.ok (.bl false) d|_=>.bad
def ZA (a b:Ev):Ev:=λc A=>(a c A).bind λx d=>match x with|.bl true=>.ok (.bl true) d|.bl false=>b c d|_=>.bad
def kj (a:Ev):Ev:=λb A=>(a b A).bind λx c=>match x with|.bl k=>.ok (.bl (!k)) c|_=>.bad
def eT (c a b:Ev):Ev:=λd A=>(c d A).bind λx e=>match x with|.bl true=>a d e|.bl false=>b d e|_=>.bad
theorem tT.mono {K:Frag}{c:bQ}{g:Hp}{A:Hx}{f:En}{Q:Bool->Hp->Prop}(S:zL K c A g)(L:Le K φ H c g)(r:RE K φ H f σ)
  (h:(m f A).post (λw A'=>∃b,w=.bl b/\∀a d,Le K φ H a d->zL K a A' d->Q b d) (EB K φ H xr)):tT K xr m σ g Q:=
 ⟨c,A,f,S,r.mono L,qw h (λw A' ⟨b,e,q⟩=>⟨b,e,λa d l s=>q a d (L.trans l) s⟩) λ_ _ z=>z.mono L⟩
noncomputable def zu:Ea:=λ_ A=>.ok [] A
def zi (a:Ev)(r:Ea):Ea:=λb A=>(a b A).bind λx d=>(r b d).bind λX c=>.ok (x::X) c
def Xl:SA X xr [] zu:=PA.imp j3 λb H Q ⟨a,A,c,S,r,h⟩=>h a H [] .refl S .nil
def Kv {M:Ea}(f:SE X xr e ma)(r:SA X xr es M)(d:jb e es X:=by rfl):SA X xr (e::es) (zi ma M):=
 PA.imp (jk f r d) λx H Q ⟨u,A,y,S,o,h⟩=>by refine tM.go S o (zS.mp h) λw E b C v t l i c=>?_;refine Vm.go i (o.mono l) (qw (zS.mp t) (λ_ _ z=>z) λ_ _ z=>z.mono l) λn D a j B p L g q=>?_;exact p a j _ (l.trans L) g (.cons (c.mono L) q)
def qB (a:Ea):Ev:=λb A=>(a b A).bind λx c=>.ok (.tup x) c
def qL (a:Ea):Ev:=λc A=>(a c A).bind λx b=>.ok (.ref b.length) (b++[.lst x])
def Jp {K:Frag}{A:Hx}{p:Addr}{w:List W}(S:zL K φ A H)(h:H p=none)(r:zE K φ H w vs):
  Le K φ H φ (upd H p (.tup vs))/\zL K φ A (upd H p (.tup vs))/\RV K φ (upd H p (.tup vs)) (.tup w) (.ref p):=
 ⟨Le.new h,S.lay h,p,vs,rfl,qA.of jR,r.mono (Le.new h)⟩
def QR {K:Frag}{A:Hx}{p:Addr}{w:List W}(S:zL K φ A H)(h:H p=none)(r:zE K φ H w vs):
  Le K φ H (φ++[p]) (upd H p (.lst vs))/\zL K (φ++[p]) (A++[.lst w]) (upd H p (.lst vs))/\RV K (φ++[p]) (upd H p (.lst vs)) (.ref A.length) (.ref p):=by
 have l:Le K φ H (φ++[p]) (upd H p (.lst vs)):=Le.alloc h;obtain⟨b,a⟩:=S.alloc (o:=.lst w) h ⟨vs,jR,r.mono l⟩;exact⟨b,a,p,rfl,by rw[<- S.len];simp⟩
def eU {M:Ea}(h:SA X xr es M)(c:∀ρ A ws A',M ρ A=.ok ws A'->ws.length<=sizeLine):SE X xr (.List es o7) (qL M):=
 PE.imp (dU h) λn H Q ⟨i,A,ρ,S,r,h⟩=>by
  have g:=zS.mp h;cases e:M ρ A with
  |ok ws A'=>
   rw[e]at g;refine⟨i,A,ρ,S,r,?_⟩;rw[e];intro a o v l f q;refine⟨by rw[<- q.length];exact c ρ A ws A' e,λp b=>?_⟩
   obtain⟨j,a2,d⟩:=QR f b q;exact g _ _ _ (l.trans j) a2 d
  |exc x A'=>rw[e]at g;refine⟨i,A,ρ,S,r,?_⟩;rw[e];exact g|bad=>rw[e]at g;exact g.elim
end
inductive Fl where
 |nx (ρ:En)|rt (w:W)|bk (ρ:En)|ct (ρ:En)
abbrev Ex:=En->Hx->R Fl
def FB (K:Frag)(d:bQ)(H:Hp)(D:Ends):Fl->Hx->Prop
 |.nx c,A=>∀a h b,Le K d H a h->zL K a A h->RE K a h c b->D.nx b h|.rt w,A=>∀a h v,Le K d H a h->zL K a A h->RV K a h w v->D.rt v h|.bk c,A=>∀a h b,Le K d H a h->zL K a A h->RE K a h c b->D.bk b h|.ct c,A=>∀a h b,Le K d H a h->zL K a A h->RE K a h c b->D.ct b h
def FB.mono {K:Frag}{c:bQ}{e:Hp}{D:Ends}{fl:Fl}{A:Hx}(h:FB K φ H D fl A)(l:Le K φ H c e):FB K c e D fl A:=by
 cases fl with|nx d=>exactλa b v L=>h a b v (l.trans L)|rt d=>exactλa b v L=>h a b v (l.trans L)|bk d=>exactλa b v L=>h a b v (l.trans L)|ct d=>exactλa b v L=>h a b v (l.trans L)
inductive MS (K:Frag)(xr:XR)(m:Ex)(D:Ends)(σ:St)(H:Hp):Prop
 |mk (φ:bQ) (A:Hx) (ρ:En) (S:zL K φ A H) (re:RE K φ H ρ σ) (h:(m ρ A).post (FB K φ H D) (EB K φ H xr))
def tS (K:Frag)(x:XR)(m:Ex):TS:=λD a H=>MS K x m D a H
def SS (X:Cx)(x:XR)(S:Stmt)(m:Ex):Prop:=PS X S (tS X.K x m)
def JO (X:Cx)(x:XR)(S:b9)(m:Ex):Prop:=yJ X S (tS X.K x m)
section
variable {xr:XR}{a b c:Expr}{st:Stmt}{oQ:b9}{m:Ev}{m1 m2:Ex}
def PS.imp {t T:TS}(h:PS X st t)(i:∀D σ H,T D σ H->t D σ H):PS X st T:=λp s σ H D I w=>h p s σ H D I (i D σ H w)
def yJ.imp {t T:TS}(h:yJ X oQ t)(i:∀D σ H,T D σ H->t D σ H):yJ X oQ T:=λp s σ H D I w=>h p s σ H D I (i D σ H w)
noncomputable def zX:Ex:=λa A=>.ok (.nx a) A
def zG (d M:Ex):Ex:=λc A=>(d c A).bind λfl b=>match fl with|.nx a=>M a b|f=>.ok f b
def wz (m:Ev):Ex:=λa A=>(m a A).bind λ_ b=>.ok (.nx a) b
def gH (m:Ev):Ex:=λa A=>(m a A).bind λw b=>.ok (.rt w) b
def jQ (c:Ev)(a b:Ex):Ex:=λd A=>(c d A).bind λx e=>match x with|.bl true=>a d e|.bl false=>b d e|_=>.bad
def qu (i:Nat)(m:Ev):Ex:=λa A=>(m a A).bind λw b=>.ok (.nx (a.set i (some w))) b
def qu.read:∀D σ H,tS X.K xr (qu i m) D σ H->X1 (tM X.K xr m) (XC i) D σ H:=by
 rintro D σ H ⟨e,A,f,S,r,h⟩
 exact tM.go S r (zS.mp h) λw g a d v c l b q=>c a d _ l b ((r.mono l).set q)
def Yq (g:W->W->W->Hx->R Unit)(e M d:Ev):Ex:=λc A=>(e c A).bind λv h=>(M c h).bind λo f=>(d c f).bind λi b=>(g o i v b).bind λ_ a=>.ok (.nx c) a
def M4 (K:Frag)(t:JG)(g:W->W->W->Hx->R Unit):Prop:=∀c A H o i v w b d Q,zL K c A H->RV K c H w o->RV K c H b i->RV K c H d v->
 (g w b d A).post (λ_ e=>∀a h,Le K c H a h->zL K a e h->Q h) Zy->t o i v H Q
def CV {o i:Expr}{mo mi:Ev}{t:JG}{g:W->W->W->Hx->R Unit}(ht:XO X t)(hn:∀o i v A,qT (g o i v A))(U:M4 X.K t g)(he:SE X xr e m)(P:SE X xr o mo)(T:SE X xr i mi)
  (N:swapsWithSole [.Subscript o i oK] e o7.line X.env=pure false:=by rfl)(hw:swappedStores [.Subscript o i oK] e X.env=pure none:=by rfl)
  (h1:(assignEach [.Subscript o i oK] X.env).map (·.2)=[assign (.Subscript o i oK) X.env]:=by rfl)
  (Y:∀v,assign (.Subscript o i oK) X.env v=(do
   let ov <- holding [v] (eval o X.env)
   let iv <- holding [v,ov] (eval i X.env)
   standAt oK
   holding [v,ov,iv] (setItem ov iv v)
   release [v,ov,iv] []):=by intro _;rfl):SS X xr (.Assign [.Subscript o i oK] e o7) (Yq g m mo mi):=
 PS.imp (Td he (c7 P T ht Y) N hw h1) λD σ H ⟨φ,A,ρ,S,re,h⟩=>by
  refine tM.go S re (zS.mp h) λn A1 E H1 v1 h1 f S1 M=>?_;refine tM.go S1 (re.mono f) (qw (zS.mp h1) (λ_ _ z=>z) λ_ _ z=>z.mono f) λj A2 C H2 v2 h2 q S2 J=>?_;have l:=f.trans q;refine tM.go S2 (re.mono l) (qw (zS.mp h2) (λ_ _ z=>z) λ_ _ z=>z.mono l) λw B c H3 I a d S3 Q=>?_;have L:=l.trans d;refine U c B H3 v2 I v1 j w n _ S3 (J.mono d) Q (M.mono (q.trans d)) ?_;cases r:g j w n B with
  |ok u y=>
   rw[r]at a;exactλb H4 p Z=>a b H4 σ (L.trans p) Z (re.mono (L.trans p))
  |exc x y=>exact absurd r (hn _ _ _ _ x y)|bad=>rw[r]at a;exact a.elim
structure jn where
 at_:Hx->Nat->Option (Option W)
 len:Nat
def ZW (K:Frag)(c:bQ)(H:Hp)(j:jn)(J:It):Prop:=∀i a h A,Qz K c H a h->zL K a A h->
 (∀w,j.at_ A i=some (some w)->J.go i h/\∀x b,J.yld i h x b->Le K a h a b/\zL K a A b/\RV K a b w x)/\(j.at_ A i=some none->J.stop i h)
abbrev Ei:=En->Hx->R jn
inductive MI (K:Frag)(xr:XR)(mi:Ei)(σ:St)(H:Hp)(Rr:It->Hp->Prop):Prop
 |mk (φ:bQ) (A:Hx) (ρ:En) (S:zL K φ A H) (re:RE K φ H ρ σ) (h:(mi ρ A).post (λj A1=>∀oO H1 J,Le K φ H oO H1->zL K oO A1 H1->ZW K oO H1 j J->Rr J H1) (EB K φ H xr))
def tI (K:Frag)(x:XR)(M:Ei):TI:=λa H r=>MI K x M a H r
def SI (X:Cx)(x:XR)(t i:Expr)(M:Ei):Prop:=PI X t i (tI X.K x M)
def PI.imp {t T:TI}(h:PI X tg e t)(i:∀σ H Q,T σ H Q->t σ H Q):PI X tg e T:=λp s σ H Q I w=>h p s σ H Q I (i σ H Q w)
abbrev Tg:=W->En->Option En
inductive MG (K:Frag)(tw:Tg)(v:V)(σ:St)(H:Hp)(Q:St->Hp->Prop):Prop
 |mk (φ:bQ) (A:Hx) (ρ:En) (w:W) (ρ':En) (S:zL K φ A H) (re:RE K φ H ρ σ) (rv:RV K φ H w v) (t:tw w ρ=some ρ') (q:∀σ',RE K φ H ρ' σ'->Q σ' H)
def tG (K:Frag)(t:Tg):TG:=λv a H Q=>MG K t v a H Q
def SG (X:Cx)(t:Expr)(T:Tg):Prop:=PG X t (tG X.K T)
def PG.imp {t T:TG}(h:PG X tg t)(i:∀v σ H Q,T v σ H Q->t v σ H Q):PG X tg T:=λp s σ H v u Q I r w=>h p s σ H v u Q I r (i v σ H Q w)
noncomputable def zN (i:Nat):Tg:=λw a=>some (a.set i (some w))
noncomputable def jD (i j:Nat):Tg:=λw a=>match w with|.tup [x,y]=>some ((a.set i (some x)).set j (some y))|_=>none
noncomputable def jS (j:jn)(S:W->Ex):Nat->Nat->Ex
 |0,i,ρ,A=>match j.at_ A i with|some none=>.ok (.nx ρ) A|_=>.bad
 |f+1,i,ρ,A=>match j.at_ A i with
  |some none=>.ok (.nx ρ) A|some (some w)=>(S w ρ A).bind λfl b=>match fl with|.nx a=>jS j S f (i+1) a b|.ct a=>jS j S f (i+1) a b|.bk a=>.ok (.nx a) b|.rt w=>.ok (.rt w) b
  |none=>.bad
noncomputable def turn (t:Tg)(b:Ex)(w:W):Ex:=λc A=>match t w c with|some a=>b a A|none=>.bad
def jA (M:Ei)(t:Tg)(b:Ex):Ex:=λa A=>(M a A).bind λj c=>jS j (turn t b) j.len 0 a c
inductive LO (K:Frag)(xr:XR)(j:jn)(t:W->Ex)(D:Ends)(oO:bQ)(H1:Hp)(f i:Nat)(σ':St)(H':Hp):Prop
 |mk (φ2:bQ) (A2:Hx) (ρ2:En) (l:Le K oO H1 φ2 H') (S:zL K φ2 A2 H') (re:RE K φ2 H' ρ2 σ') (h:(jS j t f i ρ2 A2).post (FB K φ2 H' D) (EB K φ2 H' xr))
noncomputable def wK (c:Ev)(b:Ex):Nat->Ex
 |0,ρ,A=>.bad|f+1,ρ,A=>(c ρ A).bind λx e=>match x with
  |.bl true=>(b ρ e).bind λfl d=>match fl with|.nx a=>wK c b f a d|.ct a=>wK c b f a d|.bk a=>.ok (.nx a) d|.rt w=>.ok (.rt w) d
  |.bl false=>.ok (.nx ρ) e|_=>.bad
def eV (f:Nat)(c:Ev)(b:Ex):Ex:=wK c b f
noncomputable def Qj (n:Nat)(c:bS)(a:En):En:=List.replicate n none++c.map λi=>(a[i]?).join
theorem RE.ZT {K:Frag}{b:En}{n:Nat}(r:RE K φ H b σ):RE K φ H (Qj n cap b) (L2.ZT n cap σ):=by
 refine⟨by simp[Qj,L2.ZT],λi w e=>?_⟩
 unfold Qj at e;unfold L2.ZT
 by_cases d:i<n
 ·rw[ah (by simpa using d),bf]at e
  split at e<;>cases e
 ·rw[ar (by simpa using d),bq,av]at e
  rw[ar (by simpa using d),bq,av]
  cases c:cap[i-n]? with
  |none=>rw[c]at e;cases e|some k=>
   rw[c]at e;have E:(b[k]?).join=some w:=aE e;cases h:b[k]? with
   |none=>rw[h]at E;cases E|some o=>cases o with
    |none=>rw[h]at E;cases E|some a=>
     rw[h]at E;cases E;obtain⟨v,g,f⟩:=r.get k w h;exact⟨v,by simp[g],f⟩
abbrev Em:=En->List W->Hx->R (En×List W)
noncomputable def zT:Nat:=100000
def ql (e:Ev):Em:=λb a A=>(e b A).bind λy c=>if a.length<zT then .ok (b,a++[y]) c else .bad
noncomputable def ja (j:jn)(t:Tg)(I:Ev)(e:Em):Nat->Nat->Em
 |0,i,ρ,acc,A=>match j.at_ A i with|some none=>.ok (ρ,acc) A|_=>.bad
 |f+1,i,ρ,acc,A=>match j.at_ A i with
  |some none=>.ok (ρ,acc) A|some (some w)=>match t w ρ with
   |some a=>(I a A).bind λc b=>match c with|.bl true=>(e a acc b).bind λp d=>ja j t I e f (i+1) p.1 p.2 d|.bl false=>ja j t I e f (i+1) a acc b|_=>.bad
   |none=>.bad
  |none=>.bad
def QW (M:Ei)(t:Tg)(i:Ev)(e:Em):Em:=λb a A=>(M b A).bind λj c=>ja j t i e j.len 0 b a c
abbrev jP:=En->Hx->R (List W)
def qy (n:Nat)(c:bS)(M:Ei)(t:Tg)(i:Ev)(e:Em):jP:=λa A=>(M a A).bind λj d=>(ja j t i e j.len 0 (Qj n c a) [] d).nox.bind λp b=>.ok p.2 b
def S9 (K:Frag)(D:Addr)(c:bQ)(H:Hp)(Q:St->Hp->Prop)(p:En×List W)(A:Hx):Prop:=∀a h b z,yP K D c H a h->(∀k:Nat,a[k]?≠some D)->zL K a A h->RE K a h p.1 b->h D=some (.lst z)->zE K a h p.2 z->Q b h
inductive ME (K:Frag)(em:Em)(D:Addr)(σ:St)(H:Hp)(Q:St->Hp->Prop):Prop
 |mk (φ:bQ) (A:Hx) (ρ:En) (acc:List W) (ys:List V) (S:zL K φ A H) (re:RE K φ H ρ σ) (hD:H D=some (.lst ys)) (nD:∀k:Nat,φ[k]?≠some D) (rv:zE K φ H acc ys)
  (h:(em ρ acc A).post (S9 K D φ H Q) Zy)
def tE (K:Frag)(e:Em):gO:=λD a H Q=>ME K e D a H Q
abbrev jO:XR:=λ_ _=>False
def SM (X:Cx)(e:Expr)(g:List Comprehension)(S:Scope)(c:Pos)(d:Nat)(E:Em):Prop:=gc X e g S c d (tE X.K E)
def gc.imp {d:Nat}{t T:gO}(h:gc X oN gens sc o7 d t)(i:∀D σ H Q,T D σ H Q->t D σ H Q):gc X oN gens sc o7 d T:=
 λp s σ H D Q k q E I w a=>h p s σ H D Q k q E I (i D σ H Q w) a
def UE {K:Frag}{r:R α}{P:α->Hx->Prop}(h:r.post P Zy):r.post P (EB K φ H jO):=qw h (λ_ _ z=>z) λ_ _ z=>z.elim
def WA (X:Cx)(i:bW)(m:Ev):Prop:=Qs X i (tT X.K jO m)
inductive Ia (tw:Tg)(ifs:Ev)(em:Em)(j:jn)(K:Frag)(D:Addr)(φ:bQ)(H:Hp)(Q:St->Hp->Prop)(f i:Nat)(σ':St)(H':Hp):Prop
 |mk (φ2:bQ) (A2:Hx) (ρ2:En) (acc2:List W) (ys2:List V) (l:yP K D φ H φ2 H') (S:zL K φ2 A2 H') (re:RE K φ2 H' ρ2 σ') (hD:H' D=some (.lst ys2)) (nD:∀k:Nat,φ2[k]?≠some D) (ra:zE K φ2 H' acc2 ys2) (h:(ja j tw ifs em f i ρ2 acc2 A2).post (S9 K D φ H Q) Zy)
def ja.read {tw:Tg}{ifs:Ev}{em:Em}{j:jn}{J:It}{K:Frag}{A:Hx}{ρ:En}{acc:List W}{Q:St->Hp->Prop}{f:Nat}
  (jr:ZW K φ H j J)
  (S:zL K φ A H)(re:RE K φ H ρ σ)(hD:H D=some (.lst ys))(nD:∀k:Nat,φ[k]?≠some D)(ra:zE K φ H acc ys)
  (h:(ja j tw ifs em f 0 ρ acc A).post (S9 K D φ H Q) Zy):
  K8 J (tG K tw) (tT K jO ifs) (tE K em) D σ H Q:=by
 refine⟨λi f b P=>Ia tw ifs em j K D φ H Q f i b P,
  ⟨f,φ,A,ρ,acc,ys,.refl,S,re,hD,nD,ra,h⟩,?_⟩
 rintro i f U H2 ⟨e,A2,q,d,Y,B,S2,t,M,u,l,h2⟩
 obtain⟨j1,j2⟩:=jr i e H2 A2 ⟨B.ex,B.tp,B.fz⟩ S2;cases E:j.at_ A2 i with
 |none=>cases f<;>(unfold ja at h2;rw[E]at h2;exact h2.elim)|some o=>
  cases o with
  |none=>
   left
   refine⟨j2 E,?_⟩;cases f<;>(unfold ja at h2;rw[E]at h2;exact h2 e H2 U Y B u S2 t M l)
  |some w=>
   right
   obtain⟨go,yl⟩:=j1 w E;cases f with
   |zero=>unfold ja at h2;rw[E]at h2;exact h2.elim|succ f=>
    unfold ja at h2;rw[E]at h2;refine⟨go,λb P=>Ia tw ifs em j K D φ H Q f (i+1) b P,λb P z=>⟨f,bz _,z⟩,λx H3 y=>?_⟩;obtain⟨v,S3,q3⟩:=yl x H3 y;obtain⟨hD3,Z⟩:=v.off M u;dsimp only at h2;cases et:tw w q with
    |none=>rw[et]at h2;exact h2.elim|some g=>
     rw[et]at h2;refine⟨e,A2,q,w,g,S3,t.mono v,q3,et,λσ3 r=>?_⟩;refine tT.go S3 r (UE (zS.mp h2)) λc A4 a=>?_;cases c with
     |bl k=>
      refine⟨k,rfl,λn H4 L S4=>?_⟩;obtain⟨I,N⟩:=L.off hD3 Z;have C:=(B.trans (v.trans L).toD);cases k with
      |true=>
       rw[ai rfl];refine⟨n,A4,g,d,Y,S4,r.mono L,I,N,l.mono (v.trans L),qw (zS.mp a) (λp A5 h5 T H5 σ5 zs l5 n5 S5 X d5 r5=>?_) λ_ _ z=>z⟩;exact⟨T,A5,p.1,p.2,zs,C.trans l5,S5,X,d5,n5,r5,h5⟩
      |false=>
       rw[aj aH];exact⟨n,A4,g,d,Y,C,S4,r.mono L,I,N,l.mono (v.trans L),a⟩
     |non=>cases a|int _=>cases a|str _=>cases a|tup _=>cases a|ref _=>cases a|clo _ _ _=>cases a|xc _=>cases a|fn _=>cases a
def ZW.mono {K:Frag}{b:bQ}{f:Hp}{j:jn}{J:It}(h:ZW K φ H j J)(l:Qz K φ H b f):ZW K b f j J:=
 λi c d A L=>h i c d A ⟨λn a e=>L.ex n a (l.ex n a e),λa v e=>L.tp a v (l.tp a v e),λa o u e=>L.fz a o u (l.fz a o u e)⟩
inductive MF (K:Frag)(xr:XR)(mq:jP)(σ:St)(H:Hp)(Q:VK):Prop
 |mk (φ:bQ) (A:Hx) (ρ:En) (S:zL K φ A H) (re:RE K φ H ρ σ) (h:(mq ρ A).post (λws A1=>∀oO H1 D ys,Le K φ H oO H1->zL K oO A1 H1->H D=none->H1 D=some (.lst ys)->(∀k:Nat,oO[k]?≠some D)->zE K oO H1 ws ys->Q (.ref D) H1) (EB K φ H xr))
def tF (K:Frag)(x:XR)(mq:jP):TE:=λa H Q=>MF K x mq a H Q
def SF (X:Cx)(x:XR)(e:Expr)(mq:jP):Prop:=PE X e (tF X.K x mq)
theorem qy.read {P:Ei}{T:Tg}{M:Ev}{E:Em}{B:Nat}:∀σ H Q,tF X.K xr (qy B cap P T M E) σ H Q->Xz X.K (tI X.K xr P) (tG X.K T) (tT X.K jO M) (tE X.K E) B cap σ H Q:=by
 rintro σ H Q ⟨Y,A,C,S,I,h⟩
 refine⟨Y,A,C,S,I,qw (zS.mp h) (λj A1 h1 b U J l g q D c t=>?_) λ_ _ z=>z⟩;have y:Le X.K b U b (upd U D (.lst [])):=Le.new c;have a:=zS.mp h1;refine ja.read (q.mono ⟨y.ex,y.tp,y.fz⟩) (g.lay c) ((I.mono (l.trans y)).ZT) jR (g.notin c t) .nil ?_ (f:=j.len) (acc:=[]);cases e:ja j T M E j.len 0 (Qj B cap C) [] A1 with
 |ok p A2=>
  rw[e]at a;intro d w i Z o N v r u n;have L:=l.trans (Le.ofD c o);exact a d w D Z L v (l.st D c) u N n
 |exc x A2=>rw[e]at a;exact a.elim|bad=>rw[e]at a;exact a.elim
def jN (q:jP):Ev:=λb A=>(q b A).bind λw a=>.ok (.ref a.length) (a++[.lst w])
def jN.read {q:jP}{K:Frag}:∀σ H Q,tM K xr (jN q) σ H Q->tF K xr q σ H Q:=by
 rintro σ H Q ⟨f,A,g,S,i,h⟩
 refine⟨f,A,g,S,i,qw (zS.mp h) (λw u p b e D y L d t c N r=>?_) λ_ _ z=>z⟩;have l:Le K f H (b++[D]) e:=L.YB t;have j:Qz K b e (b++[D]) e:=⟨λn a h=>by
  have:=(cj.mp h).1
  rw[ah this];exact h,λ_ _ h=>h,λ_ _ _ h=>h⟩
 refine p _ _ _ l (d.YB (o:=.lst w) c N ⟨y,c,r.monoW j⟩) ⟨D,rfl,?_⟩;rw[<- d.len];simp
inductive MQ (K:Frag)(xr:XR)(mq:jP)(σ:St)(H:Hp)(Q:VK):Prop
 |mk (φ:bQ) (A:Hx) (ρ:En) (S:zL K φ A H) (re:RE K φ H ρ σ) (h:(mq ρ A).post (λws A1=>∀oO H1 a ys,Le K φ H oO H1->zL K oO A1 H1->(qS K H1 a ys∨qA K H1 a ys)->zE K oO H1 ws ys->Q (.ref a) H1) (EB K φ H xr))
def tQ (K:Frag)(x:XR)(mq:jP):TE:=λa H Q=>MQ K x mq a H Q
def SQ (X:Cx)(x:XR)(e:Expr)(mq:jP):Prop:=PE X e (tQ X.K x mq)
noncomputable def zK (w:W)(A:Hx):Option (List W):=match w with
 |.tup a=>some a|.ref n=>match A[n]? with|some (.lst a)=>some a|some (.ro a)=>some a|_=>none
 |_=>none
def Gp {K:Frag}{A:Hx}{w:W}{g:List W}(S:zL K φ A H)(q:RV K φ H w v)(e:zK w A=some g):∃a y,v=.ref a/\(qS K H a y∨qA K H a y)/\zE K φ H g y:=by
 unfold zK at e;cases w with
 |tup x=>cases e;obtain⟨a,y,b,c,E⟩:=q;exact⟨a,y,b,.inr c,E⟩|ref n=>
  obtain⟨a,b,c⟩:=q;dsimp only at e;cases ea:A[n]? with
  |none=>rw[ea]at e;cases e|some o=>
   rw[ea]at e;obtain⟨d,E,r⟩:=S.ob n o ea;rw[c]at E;cases E;cases o with|lst x=>cases e;obtain⟨y,f,h⟩:=r;exact⟨a,y,b,.inl (qS.of f),h⟩|ro x=>cases e;obtain⟨y,f,h⟩:=r;exact⟨a,y,b,.inl f.sq,h⟩|dct x=>cases e|td _=>cases e|tr _=>cases e|tab _ _=>cases e
 |non=>cases e|bl _=>cases e|clo _ _ _=>cases e|xc _=>cases e|fn _=>cases e|int _=>cases e|str _=>cases e
def zZ (m:Ev):jP:=λb A=>(m b A).bind λw a=>match zK w a with|some c=>.ok c a|none=>.bad
def YM (w:W)(A:Hx):Option jn:=match zK w A with|some a=>some ⟨λA i=>(zK w A).map λa=>a[i]?,a.length⟩|none=>none
def qF (m:Ev):Ei:=λb A=>(m b A).bind λw a=>match YM w a with|some j=>.ok j a|none=>.bad
def eW (K:Frag)(t:TE):TI:=λb H r=>t b H λx h=>∃a,x=.ref a/\(((∃X,qS K h a X)/\r (Ie K a) h)∨((∃X,qA K h a X)/\r (L1 K a) h))
def eX {l:Expr}{t:TE}(j:PE X l t):PI X tg l (eW X.K t):=by
 intro P s y H u I h;refine zQ (j P s y H _ I h) λv S ⟨x,w,i,g,Q⟩=>?_;obtain⟨a,e,q⟩:=Q;subst e;cases g;have f:∀b∈[S.heap.objs.size],wJ X P w b:=λb n=>by
  have e:b=S.heap.objs.size:=by simpa using n
  subst e;exact i.fpOk (ao _) (i.hok.fresh (ao _))
 rcases q with ⟨⟨A,d⟩,q⟩|⟨⟨A,d⟩,q⟩
 ·obtain⟨c,r,p,z⟩:=i.list d
  refine wpAny_pyIter_list p.isList ?_;exact⟨S.heap.objs.size,[S.heap.objs.size],_,_,w,rfl,i.kept (t':=S.toks) λb o e=>af _ e,DH a _,⟨_,aC _ rfl,rfl,rfl⟩,f,q⟩
 ·obtain⟨c,r,p,z⟩:=i.tuple d
  refine wpAny_pyIter_tuple (show S.heap.IsTuple a c.toArray from p) ?_
  exact⟨S.heap.objs.size,[S.heap.objs.size],_,_,w,rfl,i.kept (t':=S.toks) λb o e=>af _ e,EW a _,⟨_,aC _ rfl,rfl,rfl⟩,f,q⟩
noncomputable def jG (l:Int)(n:Nat):jn:=⟨λ_ i=>if i<n then some (some (.int (l+i))) else some none,n⟩
def NN {K:Frag}{l:Int}:ZW K φ H (jG l n) (WK l n):=λi a h A L S=>by
 unfold jG;dsimp only
 by_cases c:i<n
 ·rw[ai c]
  refine⟨λw e=>?_,λe=>by cases e⟩
  cases e;exact⟨c,λx d ⟨b,E⟩=>by subst b;exact⟨.refl,S,E⟩⟩
 ·rw[aj c]
  exact⟨λw e=>(by cases e),λ_=>Nat.le_of_not_lt c⟩
noncomputable def jl (i:Int):Bool:=decide (-(2 ^ 62)<=i)&&decide (i<2 ^ 62)
def QH {i:Int}(h:jl i=true):-(2 ^ 62)<=i/\i<2 ^ 62:=by unfold jl at h;rw[ak,aq,aq]at h;exact h
def jM (m:Ev):Ei:=λa A=>(m a A).bind λw b=>match w with|.int j=>if jl j then .ok (jG 0 j.toNat) b else .bad|_=>.bad
def QT (m M:Ev):Ei:=λb A=>(m b A).bind λw d=>(M b d).bind λa c=>match w,a with|.int i,.int j=>if jl i&&jl j then .ok (jG i (j-i).toNat) c else .bad|_,_=>.bad
end
abbrev Fn:=List W->Hx->R W
def ki (K:Frag)(x:Str)(C:Value):Prop:=nsIn K mainGlobals x=some (some C)
def XE (K:Frag)(E:XK)(x:Str)(H:Hp):Prop:=∀C d,ki K x C->E C d H
inductive g9 (K:Frag)(n:Nat)(f:Fn)(vs:List V)(H:Hp)(Q:VK)(E:XK):Prop
 |mk (len:vs.length=n) (φ:bQ) (A:Hx) (ws:List W) (S:zL K φ A H) (r:zE K φ H ws vs) (q:(f ws A).post (PB K φ H Q) (EB K φ H (XE K E)))
def g9.len {K:Frag}{f:Fn}{Q:VK}{E:XK}(h:g9 K n f vs H Q E):vs.length=n:=by cases h;assumption
inductive qG (P:Program)(w:World)(K:Frag)(mg:bX)(base:Heap)(k:Nat)(x:Str)(n:Nat)(f:Fn):Prop
 |mk (fa:Addr) (fd:FuncData) (ps:bU) (F:yh P w K mg base kq k fa fd ps (g9 K n f)) (at_:mg x=some (.ref fa)) (kp:keepIn K (.ref fa)=true) (bi:Binds K fd ps [])
def zU (f:Fn)(a:Ea):Ev:=λb A=>(a b A).bind λw c=>f w c
section
variable {m ma:Ev}
def Zt (m:Ea)(n:Nat):Prop:=∀a A w b,m a A=.ok w b->w.length=n
def zO:Zt zu 0:=λ_ _ _ _ h=>by unfold zu at h;cases h;rfl
def zw {M:Ea}(h:Zt M n):Zt (zi ma M) (n+1):=λa A w d e=>by
 unfold zi at e;cases h1:ma a A with
 |ok x b=>
  rw[h1,zI]at e;cases h2:M a b with|ok X c=>rw[h2,zI]at e;cases e;simp[h a b X _ h2]|exc x c=>rw[h2]at e;cases e|bad=>rw[h2]at e;cases e
 |exc x b=>rw[h1]at e;cases e|bad=>rw[h1]at e;cases e
end
def qm (n:Nat)(m:Ex):Fn:=λa A=>(m (a.map some++List.replicate (n-a.length) none) A).nox.bind λfl b=>match fl with|.rt w=>.ok w b|.nx _=>.ok .non b|_=>.bad
theorem RE.start {K:Frag}{b:List W}(h:zE K φ H b vs):RE K φ H (b.map some++List.replicate (N.length-b.length) none) (L2.start N vs):=by
 unfold L2.start;refine⟨by simp[h.length],λi w e=>?_⟩
 by_cases c:i<b.length
 ·rw[ah (by simpa using c),av]at e
  cases hw:b[i]? with
  |none=>rw[hw]at e;cases e|some a=>
   rw[hw]at e;cases e;obtain⟨v,f,d⟩:=h.get hw;refine⟨v,?_,d⟩;rw[ah (by rw[ag,<- h.length];exact c),av,f];rfl
 ·rw[ar (by simpa using c),bf]at e
  split at e<;>cases e
section
variable {K:Frag}
theorem qG.mono {j k:Nat}{f:Fn}(F:qG P w K mg base j x n f)(h:j<=k):qG P w K mg base k x n f:=by cases F with|mk fa d ps F a b c=>exact⟨fa,d,ps,F.mono h,a,b,c⟩
theorem qG.imp {k:Nat}{f g:Fn}(F:qG P w K mg base k x n f)(h:∀ws A,ws.length=n->g ws A=.bad∨f ws A=g ws A):qG P w K mg base k x n g:=by
 obtain⟨fa,i,ps,F,a,b,c⟩:=F;refine⟨fa,i,ps,F.imp λv H Q E ⟨l,d,A,ws,S,r,q⟩=>⟨l,d,A,ws,S,r,?_⟩,a,b,c⟩;rcases h ws A (by rw[r.length];exact l) with e|e
 ·rw[e]at q;exact q.elim
 ·rw[e];exact q
end
section
variable {K:Frag}
def jY {a:α}{A:Hx}:qT (R.ok a A):=λ_ _ h=>by cases h
def jc:qT (R.bad:R α):=λ_ _ h=>by cases h
def ZM {c:Prop} [Decidable c] {a b:R α}(H:qT a)(h:qT b):qT (if c then a else b):=by split<;>assumption
noncomputable def Ze (f:Int->Int->W):W->W->Hx->R W
 |.int i,.int j,A=>.ok (f i j) A|_,_,_=>.bad
def Qh {f:Int->Int->W}:∀x y A,qT (Ze f x y A):=λx y A=>by
 unfold Ze;split
 ·exact jY
 ·exact jc
noncomputable def ZE (c:Int->Int->Bool)(f:Int->Int->W):W->W->Hx->R W
 |.int i,.int j,A=>if c i j then .ok (f i j) A else .bad|_,_,_=>.bad
def Wb {c:Int->Int->Bool}{f:Int->Int->W}:∀x y A,qT (ZE c f x y A):=λx y A=>by
 unfold ZE;split
 ·exact ZM jY jc
 ·exact jc
def Qe {f:Int->Int->W}{g:Int->Int->V}(h:∀i j φ H,RV K φ H (f i j) (g i j)):yw K (Za g) (Ze f):=λφ A H x y u v Q S a q p=>by
 cases u with
 |int i=>cases v with|int j=>obtain rfl:=a;obtain rfl:=q;exact⟨i,j,rfl,rfl,p φ H _ .refl S (h i j φ H)⟩|_=>exact p.elim
 |_=>exact p.elim
def KO {c:Int->Int->Bool}{C:Int->Int->Prop}{f:Int->Int->W}{g:Int->Int->V}(d:∀i j,c i j=true->C i j)(h:∀i j φ H,RV K φ H (f i j) (g i j)):yw K (rI C g) (ZE c f):=λφ A H x y u v Q S b q p=>by
 cases u with
 |int i=>cases v with
  |int j=>
   obtain rfl:=b;obtain rfl:=q;unfold ZE at p;dsimp only at p
   by_cases a:c i j=true
   ·rw[ai a]at p;exact⟨i,j,rfl,rfl,d i j a,p φ H _ .refl S (h i j φ H)⟩
   ·rw[aj a]at p;exact p.elim
  |_=>exact p.elim
 |_=>exact p.elim
noncomputable def YK (i j:Int):Bool:=(decide (-(2 ^ 64)<i)&&decide (i<2 ^ 64)) || ((decide (-(2 ^ 64)<j)&&decide (j<2 ^ 64)) || (decide (i.natAbs<2 ^ 256)&&decide (j.natAbs<2 ^ 256)))
noncomputable def X0 (_ j:Int):Bool:=decide (0<j)
def B9 (i j:Int)(h:YK i j=true):Wm i j:=by unfold YK at h;simp only[a3,ak,decide_eq_true_eq]at h;exact h
def Aj (i j:Int)(h:X0 i j=true):(λ_ j=>0<j) i j:=by unfold X0 at h;simpa using h
def Zw:=Ze λi j=>.int (i-j)
def Jt:=ZE X0 λi j=>.int (i%j)
def eY:=Ze λi j=>.int (Builtin.bitXor i j)
def Ri:=Ze λi j=>.bl (decide (i<j))
def JV:=Ze λi j=>.bl (decide (i<=j))
def eZ:=Ze λi j=>.bl (decide (j<i))
def L7:=Ze λi j=>.bl (decide (j<=i))
noncomputable def JL (i j:Int):Bool:=decide (0<=j)&&decide (j<=1000000)&&decide (i.natAbs<2 ^ 64)
def Nr (i j:Int)(h:JL i j=true):Sw i j:=by unfold JL at h;simp only[ak,decide_eq_true_eq]at h;exact⟨h.1.1,h.1.2,h.2⟩
def YI:=ZE JL λi j=>.int (i ^ j.toNat)
variable {a b c:Expr}
noncomputable def Qr:W->Hx->R W
 |.int i,A=>.ok (.int (-i)) A|_,_=>.bad
structure wR (X:Cx)(op:CmpOp)(g:W->W->Hx->R W):Prop where
 ex:∃r:R2,qM X (compareOp op) r/\(∀x y A,qT (g x y A))/\yw X.K r g
 mks:∀b,op≠.In->op≠.NotIn->behindInMarks op b=false
def Jq {r:R2}{g:W->W->Hx->R W}(a:qM X (compareOp op) r)(H:∀x y A,qT (g x y A))(h:yw X.K r g):wR X op g:=⟨⟨r,a,H,h⟩,λb c a2=>Bn b c a2⟩
def SU:wR X .Lt Ri:=Jq dH Qh (Qe λ_ _ _ _=>rfl)
def XI:wR X .LtE JV:=Jq dI Qh (Qe λ_ _ _ _=>rfl)
def LA:wR X .Gt eZ:=Jq dJ Qh (Qe λ_ _ _ _=>rfl)
def fb:wR X .GtE L7:=Jq dM Qh (Qe λ_ _ _ _=>rfl)
end
inductive Ty where
 |non|bl|int|str|tup|lst|dct
 deriving DecidableEq
noncomputable def Ty.nm:Ty->String
 |.non => "NoneType" | .bl => "bool" | .int => "int" | .str => "str" | .tup => "tuple" | .lst => "list" | .dct => "dict"
noncomputable def j6 (w:W)(A:Hx):Option Ty:=match w with
 |.non=>some .non|.bl _=>some .bl|.int _=>some .int|.str _=>some .str|.tup _=>some .tup|.ref n=>match A[n]? with|some (.lst _)=>some .lst|some (.dct _)=>some .dct|_=>none
 |_=>none
noncomputable def km (a b:Ty):Bool:=a==b || (a==.bl&&b==.int)
def GV {K:Frag}(a b:Ty):kitOne K (.type a.nm) (.type b.nm)=some (km a b):=by cases a<;>cases b<;>rfl
section
variable {xr:XR}{K:Frag}{a c:Expr}{m:Ev}
def JN (K:Frag)(H:Hp)(x:V)(t:Ty):Prop:=gG K H x (.type t.nm)∨∃a X,x=.ref a/\qA K H a X/\t=.tup
def OQ {A:Hx}{w:W}{t:Ty}(S:zL K φ A H)(q:RV K φ H w v)(e:j6 w A=some t):JN K H v t:=by
 cases w with
 |non=>cases e;obtain rfl:=q;exact .inl .non|bl k=>cases e;obtain rfl:=q;exact .inl (.bl k)|clo _ _ _=>cases e|xc _=>cases e|fn _=>cases e|int k=>cases e;obtain rfl:=q;exact .inl (.int k)|str k=>cases e;obtain rfl:=q;exact .inl (.str k)|tup c=>cases e;obtain⟨a,d,rfl,h,_⟩:=q;exact .inr ⟨a,d,rfl,h,rfl⟩|ref n=>
  obtain⟨a,rfl,g⟩:=q;unfold j6 at e;dsimp only at e;cases E:A[n]? with
  |none=>rw[E]at e;cases e|some o=>
   rw[E]at e;obtain⟨b,f,r⟩:=S.ob n o E;rw[g]at f;cases f;cases o with|lst c=>cases e;obtain⟨d,z,_⟩:=r;exact .inl (.lst z)|dct c=>cases e;obtain⟨d,z,_⟩:=r;exact .inl (.dK z)|td _=>cases e|tr _=>cases e|tab _ _=>cases e|ro c=>cases e
def JN.kit {s:Shared}{x:V}{t:Ty}(I:Inv X o6 σ H s)(r:RelV x u)(h:JN X.K H x t):
  (∀{Q:bV}{E:bV}{A:Around}{c:Ty},(∀T,Q (.bool (km t c)) { s with toks:=T })->wpAny (model X.prog X.w) A (call (.builtin "isinstance") [u,.type c.nm]) Q E s):=by
 intro Q E A c q;rcases h with h|⟨a,xs,rfl,h,rfl⟩
 ·exact P2 I r h (GV t c) q
 ·cases (show u=Value.ref a from r)
  obtain⟨i,_,⟨o,d,b,_⟩,_⟩:=I.tuple h;exact bC kitx_tuple I.kIn ⟨o,d,b⟩ (GV .tup c) (λz=>nomatch z) q
def fc (K:Frag):List V->Hp->VK->Prop:=λX H Q=>∃x t c,X=[x,.ty (Ty.nm c)]/\JN K H x t/\Q (.bl (km t c)) H
def AF:j9 X (.builtin "isinstance") (fc X.K):=by
 intro p s e H f g Q I r h;obtain⟨x,t,c,rfl,d,q⟩:=h;obtain⟨u,U,rfl,b,a⟩:=vals2 r;cases (show U=Value.type c.nm from a)
 exact d.kit I b λT=>⟨.bl (km t c),H,I.tok T,rfl,q⟩
def w9 (t:Ty)(m:Ev):Ev:=λb A=>(m b A).bind λw a=>match j6 w a with|some T=>.ok (.bl (km T t)) a|none=>.bad
def zD:W->W->Hx->R W:=λx y A=>match zK x A,y with
 |some a,.int i=>match gk a i with|some w=>.ok w A|none=>.bad
 |_,_=>.bad
def fe:∀x y A,qT (zD x y A):=λx y A=>by
 unfold zD;split
 ·split
  ·exact jY
  ·exact jc
 ·exact jc
def Bt {a:List W}{i:Int}{w:W}(r:zE K φ H a ys)(e:gk a i=some w):∃y,gk ys i=some y/\RV K φ H w y:=by
 unfold gk at e ⊢;rw[<- r.length];cases h:Zd a.length i with
 |none=>rw[h]at e;cases e|some j=>
  rw[h]at e;obtain⟨y,c,b⟩:=r.get (i:=j) e;exact⟨y,c,b⟩
def fg:yw K (LZ K) zD:=λd A H x y u v Q S c q p=>by
 unfold zD at p;cases es:zK u A with
 |none=>rw[es]at p;exact p.elim|some g=>
  rw[es]at p;cases v with
  |int i=>
   obtain rfl:=q;dsimp only at p;cases e:gk g i with
   |none=>rw[e]at p;exact p.elim|some w=>
    rw[e]at p;obtain⟨a,Y,rfl,z,r⟩:=Gp S c es;obtain⟨b,f,h⟩:=Bt r e;rcases z with z|z
    ·exact .inl ⟨a,Y,i,b,rfl,rfl,z,f,p d H _ .refl S h⟩
    ·exact .inr (.inl ⟨a,Y,i,b,rfl,rfl,z,f,p d H _ .refl S h⟩)
  |non=>exact p.elim|bl _=>exact p.elim|str _=>exact p.elim|tup _=>exact p.elim|ref _=>exact p.elim|clo _ _ _=>exact p.elim|xc _=>exact p.elim|fn _=>exact p.elim
def Q6 (K:Frag)(r:List V->Hp->VK->Prop)(g:List W->Hx->R W):Prop:=∀b A H a y w Q,zL K b A H->(qS K H a y∨qA K H a y)->zE K b H w y->(g w A).post (PB K b H Q) Zy->r [.ref a] H Q
def mQ (g:List W->Hx->R W)(q:jP):Ev:=λa A=>(q a A).bind λw b=>g w b
def mQ.read {g:List W->Hx->R W}{q:jP}(n:∀ws A,qT (g ws A))(c:Q6 X.K r g):∀σ H Q,tM X.K xr (mQ g q) σ H Q->Vg r (Xu (tQ X.K xr q) Su) σ H Q:=by
 rintro σ H Q ⟨e,A,f,S,i,h⟩
 refine⟨e,A,f,S,i,qw (zS.mp h) (λws p j b o a y l d z r=>?_) λ_ _ z=>z⟩;exact c b p o a y ws Q d z r (qw (Yg (n _ _) j) (λ_ _ z=>z.mono l) λ_ _ z=>z)
def Wc {id:String}{g:List W->Hx->R W}{q:jP}(d:j9 X (.builtin id) r)(n:∀ws A,qT (g ws A))(a:Q6 X.K r g)(j:X.mg x=none)(v:bootBuiltins x=some (.builtin id))(f:SQ X xr e q)(c:Gl X x:=by rfl)
  (H:x ≠ "__name__":=by decide)(b:yo x:=by decide)(i:jb e [] X:=by rfl)(h:kX o7 [] X:=by rfl):
  SE X xr (.Call (.Name x p) [e] [] o7) (mQ g q):=PE.imp (Z3 d c j v (jk f j3 i) H b i h) (mQ.read n a)
def fh {id:String}{g:List W->Hx->R W}{q:jP}(d:j9 X (.type id) r)(n:∀ws A,qT (g ws A))(a:Q6 X.K r g)(j:X.mg x=none)(v:bootBuiltins x=some (.type id))(f:SQ X xr e q)(c:Gl X x:=by rfl)
  (H:x ≠ "__name__":=by decide)(b:yo x:=by decide)(i:jb e [] X:=by rfl)(h:kX o7 [] X:=by rfl):
  SE X xr (.Call (.Name x p) [e] [] o7) (mQ g q):=PE.imp (Kk d c j v (jk f j3 i) H b i h) (mQ.read n a)
noncomputable def qe:List W->Hx->R W:=λw A=>.ok (.int w.length) A
def fj:Q6 K (λx H Q=>∃p y,x=[.ref p]/\(qS K H p y∨qA K H p y)/\Q (.int y.length) H) qe:=λb A H a y w Q S z r p=>
 ⟨a,y,rfl,z,by rw[<- r.length];exact p b H _ .refl S rfl⟩
noncomputable def Zp:List W->Hx->R W:=λw A=>.ok (.tup w) A
def AH:Q6 K (λx H Q=>∃p y,x=[.ref p]/\((qS K H p y/\∀l,H l=none->Q (.ref l) (upd H l (.tup y)))∨(qA K H p y/\Q (.ref p) H))) Zp:=λc A H a y w Q S z r p=>by
 refine⟨a,y,rfl,?_⟩;rcases z with z|z
 ·refine .inl ⟨z,λl h=>?_⟩
  obtain⟨d,a2,b⟩:=Jp S h r;exact p _ _ _ d a2 b
 ·exact .inr ⟨z,p c H _ .refl S ⟨a,y,rfl,z,r⟩⟩
variable {b:Expr}
def Gz {s:Shared}{a:Addr}(I:Inv X o6 σ H s)(l:X.calm=true)(z:qS X.K H a ys∨qA X.K H a ys)
  (h:∀(c:bP)(j:Addr)(C B:bQ)(S:Nat->Heap->Prop)(y:Shared),Vals ys c->ys.length<=sizeLine->Walks X.prog X.w X.A.in1 j C B c.length (λi v=>c[i]? =some v) S->S 0 y.heap->(∀b∈C,b<y.heap.objs.size)->
   (∀(x:Heap)(T:Nat),(∀b o,b∉B->y.heap.get? b=some o->x.get? b=some o)->Inv X o6 σ H { y with heap:=x,toks:=T })->Q (.ref j) y):
  wpAny (model X.prog X.w) X.A.in1 (pyIter (.ref a)) Q E s:=by
 have g:X.A.in1.handled=none:=I.ok.hd l;have keep:∀(o:Obj)(x:Heap)(T:Nat),(∀b u,b∉[s.heap.objs.size]->(s.heap.push o).get? b=some u->x.get? b=some u)->Inv X o6 σ H { s with heap:=x,toks:=T }:=λo x T k=>I.kept λb u e=>k b u (by
  intro D;have q:b=s.heap.objs.size:=by simpa using D
  exact absurd (q ▸ aM e) (aS _)) (af _ e)
 rcases z with z|z
 ·obtain⟨c,r,p,f⟩:=I.list z
  have t:a<s.heap.objs.size:=by obtain⟨o,n,e,_⟩:=p;exact aM e
  refine wpAny_pyIter_list p.isList ?_;have W:=Walks.list (prog:=X.prog) (w:=X.w) g s.heap.objs.size a (aO t) c.toArray;rw[aD]at W;simp only[List.getElem?_toArray]at W;refine h c s.heap.objs.size _ _ _ _ r f W ⟨⟨_,aC _ rfl,rfl,rfl⟩,p.isList.at λo e=>af _ e⟩ (λb d=>?_) λx T k=>keep _ x T k;show b<(s.heap.push _).objs.size;rw[bp];rcases cm.mp d with e|d
  ·rw[e];exact bz _
  ·have e:b=a:=by simpa using d
   rw[e];exact bg t
 ·obtain⟨c,r,p,f⟩:=I.tuple z
  have t:a<s.heap.objs.size:=p.lt;have P:s.heap.IsTuple a c.toArray:=p;refine wpAny_pyIter_tuple P ?_;have W:=Walks.tuple (prog:=X.prog) (w:=X.w) g s.heap.objs.size a (aO t) c.toArray;rw[aD]at W;simp only[List.getElem?_toArray]at W;refine h c s.heap.objs.size _ _ _ _ r f W ⟨⟨_,aC _ rfl,rfl,rfl⟩,P.at λo e=>af _ e⟩ (λb d=>?_) λx T k=>keep _ x T k;show b<(s.heap.push _).objs.size;rw[bp];rcases cm.mp d with e|d
  ·rw[e];exact bz _
  ·have e:b=a:=by simpa using d
   rw[e];exact bg t
noncomputable def Wl:V->Option Bool
 |.bl b=>some b|.int i=>some (i != 0)|.non=>some false|_=>none
noncomputable def YH:W->Option Bool
 |.bl b=>some b|.int i=>some (i != 0)|.non=>some false|_=>none
def Cz {w:W}{k:Bool}(q:RV K φ H w v)(e:YH w=some k):Wl v=some k:=by
 cases w<;>first
  |(cases e;done)
  |(obtain rfl:=q;exact e)
def D2 {A:Around}{k:Bool}{s:Shared}{Q:Bool->Shared->Prop}(r:RelV v u)(e:Wl v=some k)(h:Q k s):wpAny (model X.prog X.w) A (truthy u) Q E s:=by
 cases v with
 |bl b=>cases e;cases r;exact wpAny_truthy_bool h|int i=>
  cases e;obtain⟨t,rfl⟩:=r;exact PySem.P.truthy_int h
 |non=>cases e;cases r;exactλ_ _ _=>h|_=>cases e
def gx:List W->Option (List Bool)
 |[]=>some []|w::ws=>match YH w,gx ws with|some k,some K=>some (k::K)|_,_=>none
theorem Pl:∀{f:List W}{Y:List V}{g:List Bool},zE K φ H f Y->gx f=some g->∀(i:Nat)(y:V),Y[i]? =some y->∃k,g[i]? =some k/\Wl y=some k
 |[],_,_,r,e,i,y,h=>by cases r;simp at h|w::f,_,g,⟨v,r,d,q,t⟩,e,i,y,h=>by
  subst d;unfold gx at e;cases E:YH w with
  |none=>rw[E]at e;cases e|some k=>
   cases a:gx f with
   |none=>rw[E,a]at e;cases e|some b=>
    rw[E,a]at e;cases e;cases i with|zero=>simp at h;subst h;exact⟨k,by simp,Cz q E⟩|succ i=>simp at h;obtain⟨c,l,j⟩:=Pl t a i y h;exact⟨c,by simpa using l,j⟩
theorem Pq:∀{b:List W}{c:List Bool},gx b=some c->c.length=b.length
 |[],_,e=>by cases e;rfl|w::b,c,e=>by
  unfold gx at e;cases a:YH w with
  |none=>rw[a]at e;cases e|some k=>
   cases E:gx b with|none=>rw[a,E]at e;cases e|some K=>rw[a,E]at e;cases e;simp[Pq E]
def range_all (K:List Bool):(List.range K.length).all (λi=>K.getD i false)=K.all id:=by
 rw[Bool.eq_iff_iff,aZ,aZ]
 constructor
 ·intro h x b
  obtain⟨i,a,rfl⟩:=a6 b
  have:=h i (cf.mpr a)
  rw[aa,ae a]at this;exact this
 ·intro h i a
  have H:=cf.mp a;rw[aa,ae H];exact h _ (aL H)
def range_any (K:List Bool):(List.range K.length).any (λi=>K.getD i false)=K.any id:=by
 rw[Bool.eq_iff_iff,any_eq_true,any_eq_true]
 constructor
 ·rintro⟨i,a,h⟩
  have H:=cf.mp a;rw[aa,ae H]at h;exact⟨_,aL H,h⟩
 ·rintro⟨x,b,h⟩
  obtain⟨i,a,rfl⟩:=a6 b;refine⟨i,cf.mpr a,?_⟩;rw[aa,ae a];exact h
def Sx (K:Frag)(f:List Bool->Bool):List V->Hp->VK->Prop:=λx H Q=>∃a Y b,x=[.ref a]/\(qS K H a Y∨qA K H a Y)/\b.length=Y.length/\(∀(i:Nat)(y:V),Y[i]? =some y->∃k,b[i]? =some k/\Wl y=some k)/\Q (.bl (f b)) H
def OG {K:List Bool}{A:Around}(r:Vals ys oI)(l:K.length=ys.length)(t:∀(i:Nat)(y:V),ys[i]? =some y->∃k,K[i]? =some k/\Wl y=some k):TruthOf X.prog X.w A (λi v=>oI[i]? =some v) λi=>K.getD i false:=by
 intro i v s Q E P H;have a:i<oI.length:=(cj.mp P).1;have h:i<ys.length:=by rw[r.length];exact a
 obtain⟨u,d,e⟩:=r.get (i:=i) (x:=ys[i]) (by simp[h])
 rw[P]at d;cases d;obtain⟨k,c,b⟩:=t i ys[i] (by simp[h])
 dsimp only at H;rw[aa,c]at H;exact D2 e b H
def Bi (d:X.calm=true):j9 X (.builtin "all") (Sx X.K λks=>ks.all id):=by
 intro P s A H C U Q I r h;obtain⟨a,y,ks,rfl,z,l,n,q⟩:=h;obtain⟨u,rfl,c⟩:=vals1 r;cases c;refine call_all_walk (Gz I d z λb f x w S D v g W j p B=>?_);refine⟨f,x,w,_,_,S,λi=>ks.getD i false,rfl,W,j,OG v l n,λo t k=>?_⟩;have e:b.length=ks.length:=by rw[l,v.length]
 rw[e,range_all];exact⟨.bl _,H,B o t k,rfl,q⟩
def Cp (d:X.calm=true):j9 X (.builtin "any") (Sx X.K λks=>ks.any id):=by
 intro P s A H C U Q I r h;obtain⟨a,y,ks,rfl,z,l,n,q⟩:=h;obtain⟨u,rfl,c⟩:=vals1 r;cases c;refine call_any_walk (Gz I d z λb f x w S D v g W j p B=>?_);refine⟨f,x,w,_,_,S,λi=>ks.getD i false,rfl,W,j,OG v l n,λo t k=>?_⟩;have e:b.length=ks.length:=by rw[l,v.length]
 rw[e,range_any];exact⟨.bl _,H,B o t k,rfl,q⟩
noncomputable def Zu (f:List Bool->Bool):List W->Hx->R W:=λw A=>match gx w with|some K=>.ok (.bl (f K)) A|none=>.bad
def Mq {f:List Bool->Bool}:∀ws A,qT (Zu f ws A):=λws A=>by
 unfold Zu;split
 ·exact jY
 ·exact jc
def Nf {f:List Bool->Bool}:Q6 K (Sx K f) (Zu f):=λb A H a y w Q S z r p=>by
 unfold Zu at p;cases e:gx w with
 |none=>rw[e]at p;exact p.elim|some c=>
  rw[e]at p;exact⟨a,y,c,rfl,z,by rw[Pq e,r.length],Pl r e,p b H _ .refl S rfl⟩
abbrev Ws:=Zu λK=>K.all id
abbrev Wu:=Zu λK=>K.any id
def DT:qM X (compareOp .IsNot) (λx y H Q=>∃i j,x=.bl i/\y=.bl j/\Q (.bl (!(i==j))) H):=by intro p s a H x y v u Q I rx ry h;obtain⟨i,j,rfl,rfl,q⟩:=h;cases rx;cases ry;exact isnot_bool ⟨.bl _,H,I,rfl,q⟩
noncomputable def T9:W->Bool
 |.non=>true|_=>false
def EJ {w:W}(q:RV K φ H w v):decide (v=.non)=T9 w:=by
 cases w with|non=>obtain rfl:=q;rfl|bl b=>obtain rfl:=q;rfl|clo _ _ _=>obtain⟨a,_,_,_,_,_,_,rfl,_⟩:=q;rfl|xc _=>obtain⟨a,_,_,_,rfl,_⟩:=q;rfl|fn _=>obtain⟨a,rfl,_⟩:=q;rfl|int b=>obtain rfl:=q;rfl|str b=>obtain rfl:=q;rfl|tup c=>obtain⟨a,d,rfl,_⟩:=q;rfl|ref n=>obtain⟨a,rfl,_⟩:=q;rfl
def Vj (n:Bool):W->W->Hx->R W:=λx y A=>match x,y with|.bl i,.bl j=>.ok (.bl (if n then !(i==j) else i==j)) A|w,.non=>.ok (.bl (if n then !T9 w else T9 w)) A|_,_=>.bad
def fk {n:Bool}:∀x y A,qT (Vj n x y A):=λx y A=>by
 unfold Vj;split
 ·exact jY
 ·exact jY
 ·exact jc
def Cb:yw K (λx y H Q=>(y=.non/\Q (.bl (!decide (x=.non))) H)∨∃i j,x=.bl i/\y=.bl j/\Q (.bl (!(i==j))) H) (Vj true):=λc A H x y u v Q S b a p=>by
 cases v with
 |non=>
  have q:y=.non:=a;refine .inl ⟨q,?_⟩;rw[EJ b];cases u<;>exact p c H _ .refl S rfl
 |bl j=>
  cases u with|bl i=>obtain rfl:=b;obtain rfl:=a;exact .inr ⟨i,j,rfl,rfl,p c H _ .refl S rfl⟩|_=>exact p.elim
 |_=>cases u<;>exact p.elim
def AJ:wR X .IsNot (Vj true):=Jq (Aq.or DT) fk Cb
end
noncomputable def Lo (o S:Scope):Bool:=S.kind==.function&&decide ((S.names.map (·.1)).Nodup)&&S.names.all λy=>y.2 != .free || (o.names.lookup y.1==some .cell || o.names.lookup y.1==some .free)
def cps (h:Lo X.env.scope sc=true):gw X sc:=by
 unfold Lo at h;rw[ak,ak,aq,aK,aZ]at h;refine⟨h.1.1,h.1.2,λy H e=>?_⟩
 have:=h.2 y H
 rw[e]at this;simp only[bne_self_eq_false,Bool.false_or,a3,aK]at this;exact this
section
variable {xr:XR}{K:Frag}{a b:Expr}{ma mb:Ev}
theorem zL.lst {b:bQ}{A:Hx}{H:Hp}{n:Nat}{w:List W}{v:V}(S:zL K b A H)(q:RV K b H (.ref n) v)(e:A[n]? =some (.lst w)):∃p vs,v=.ref p/\b[n]? =some p/\H p=some (.lst vs)/\zE K b H w vs:=by obtain⟨p,rfl,d⟩:=q;obtain⟨P,c,vs,a,h⟩:=S.ob n _ e;rw[d]at c;cases c;exact⟨p,vs,rfl,d,a,h⟩
def Ci {p:Program}{A:Around}{s:Shared}{t b:Addr}{f:bP}(i:IsTup s.heap t ([]:bP).toArray)(a:IsTup s.heap b f.toArray)(j:Q (.ref b) s):
  wpAny (model p w) A (binaryOp .Add (.ref t) (.ref b)) Q E s:=by
 obtain⟨⟨r,q,data,l⟩,o,c,n,g⟩:=id i;obtain⟨⟨C,d,D,S⟩,h,H,N,e⟩:=id a;simp only at c g H e;subst c g H e;exact concat_meets ⟨_,o,rfl⟩ ⟨_,h,rfl⟩ noFill_tuple_add seq_tuple_add slot_tuple_add entry_tuple_add (args_tuple_add_2 _ _)
   (tuple_addW0 t b ([]:bP).toArray f.toArray n N q d l S (by simp)) ⟨o,h,j⟩
def N4 (K:Frag):R2:=λx y H Q=>∃a b Y,x=.ref a/\y=.ref b/\qA K H a []/\qA K H b Y/\Q (.ref b) H
def Cj:qM X (binaryOp .Add) (N4 X.K):=by intro g s j H x y v u Q I rx ry h;obtain⟨a,b,Y,rfl,rfl,e,d,q⟩:=h;cases rx;cases ry;obtain⟨c,r,P,_⟩:=I.tuple e;obtain⟨i,f,p,_⟩:=I.tuple d;cases r;exact Ci P p ⟨.ref b,H,I,rfl,q⟩
def qR:W->W->Hx->R W:=λx y A=>match x,y with
 |.int i,.int j=>.ok (.int (i+j)) A|.tup X,.tup Y=>if X.length+Y.length<=zT then .ok (.tup (X++Y)) A else .bad|.ref n,.ref k=>match A[n]?,A[k]? with|some (.lst X),some (.lst Y)=>if X.length+Y.length<=zT then .ok (.ref A.length) (A++[.lst (X++Y)]) else .bad|_,_=>.bad
 |_,_=>.bad
def fm:∀x y A,qT (qR x y A):=λx y A=>by
 unfold qR
 split
 ·exact jY
 ·exact ZM jY jc
 ·split
  ·exact ZM jY jc
  ·exact jc
 ·exact jc
def Yc (h:n<=zT):n<=sizeLine:=by
 have:sizeLine=16777216:=sizeLine_eq
 unfold zT at h;lia
def ft:yw K (λx y H Q=>Za (λi j=>.int (i+j)) x y H Q∨MW K x y H Q∨N4 K x y H Q∨Lu x y H Q) qR:=λL A H x y u v Q S f q p=>by
 cases u with
 |int i=>cases v with|int j=>obtain rfl:=f;obtain rfl:=q;exact .inl ⟨i,j,rfl,rfl,p L H _ .refl S rfl⟩|_=>exact p.elim
 |tup X=>cases v with
  |tup Y=>
   obtain⟨M,b,rfl,T,c⟩:=f;obtain⟨a2,a,rfl,t,r⟩:=q;unfold qR at p;dsimp only at p
   by_cases h:X.length+Y.length<=zT
   ·rw[ai h]at p
    by_cases C:b=[]
    ·subst C
     have o:X=[]:=by
      have:=c.length
      simpa using this
     subst o;exact .inr (.inr (.inl ⟨M,a2,a,rfl,rfl,T,t,p L H _ .refl S ⟨a2,a,rfl,t,r⟩⟩))
    ·refine .inr (.inl ⟨M,a2,b,a,rfl,rfl,T,t,C,by rw[<- c.length,<- r.length];exact Yc h,λe=>?_,λne l g=>?_⟩)
     ·subst e
      have o:Y=[]:=by
       have:=r.length
       simpa using this
      subst o;rw[aX]at p;exact p L H _ .refl S ⟨M,b,rfl,T,c⟩
     ·obtain⟨z,w,B⟩:=Jp S g (c.append r)
      exact p _ _ _ z w B
   ·rw[aj h]at p;exact p.elim
  |_=>exact p.elim
 |ref n=>cases v with
  |ref k=>
   unfold qR at p;dsimp only at p;cases E:A[n]? with
   |none=>rw[E]at p;exact p.elim|some J=>cases J with
    |lst X=>
     cases d:A[k]? with
     |none=>rw[E,d]at p;exact p.elim|some I=>cases I with
      |lst Y=>
       rw[E,d]at p;dsimp only at p;obtain⟨D,U,rfl,f1,g1,c⟩:=S.lst f E;obtain⟨P,N,rfl,f2,Z,r⟩:=S.lst q d
       by_cases h:X.length+Y.length<=zT
       ·rw[ai h]at p
        refine .inr (.inr (.inr ⟨D,P,U,N,rfl,rfl,g1,Z,by rw[<- c.length,<- r.length];exact Yc h,λl g=>?_⟩))
        obtain⟨z,w,B⟩:=QR S g (c.append r);exact p _ _ _ z w B
       ·rw[aj h]at p;exact p.elim
      |_=>rw[E,d]at p;exact p.elim
    |_=>rw[E]at p;exact p.elim
  |_=>exact p.elim
 |_=>cases v<;>exact p.elim
def qd:W->W->Hx->R W:=λx y A=>match x,y with
 |.int i,.int j=>if YK i j then .ok (.int (i * j)) A else .bad|.ref n,.int k=>match A[n]? with|some (.lst xs)=>if jl k&&decide (xs.length * k.toNat<=zT) then .ok (.ref A.length) (A++[.lst (List.replicate k.toNat xs).flatten]) else .bad|_=>.bad
 |_,_=>.bad
def fv:∀x y A,qT (qd x y A):=λx y A=>by
 unfold qd
 split
 ·exact ZM jY jc
 ·split
  ·exact ZM jY jc
  ·exact jc
 ·exact jc
theorem zE.rep {w:List W}(r:zE K φ H w vs):∀n:Nat,zE K φ H (List.replicate n w).flatten (List.replicate n vs).flatten
 |0=>.nil|n+1=>by rw[ba,ba,a8,a8];exact r.append (zE.rep r n)
def Ak:yw K (λx y H Q=>rI Wm (λi j=>.int (i * j)) x y H Q∨Lf x y H Q) qd:=λf A H x y u v Q S a q p=>by
 cases v with
 |int j=>cases u with
  |int i=>
   obtain rfl:=a;obtain rfl:=q;unfold qd at p;dsimp only at p
   by_cases c:YK i j=true
   ·rw[ai c]at p;exact .inl ⟨i,j,rfl,rfl,B9 i j c,p f H _ .refl S rfl⟩
   ·rw[aj c]at p;exact p.elim
  |ref n=>
   obtain rfl:=q;unfold qd at p;dsimp only at p;cases e:A[n]? with
   |none=>rw[e]at p;exact p.elim|some o=>cases o with
    |lst X=>
     rw[e]at p;dsimp only at p;obtain⟨P,g,rfl,w,t,r⟩:=S.lst a e
     by_cases h:(jl j&&decide (X.length * j.toNat<=zT))=true
     ·rw[ai h]at p
      rw[ak,aq]at h;obtain⟨d,B⟩:=QH h.1;refine .inr ⟨P,j,g,rfl,rfl,t,by lia,by lia,by rw[<- r.length];exact Yc h.2,λl b=>?_⟩
      obtain⟨c1,c2,C⟩:=QR S b (r.rep j.toNat);exact p _ _ _ c1 c2 C
     ·rw[aj h]at p;exact p.elim
    |_=>rw[e]at p;exact p.elim
  |_=>exact p.elim
 |_=>cases u<;>exact p.elim
def OZ {M:Ea}(h:SA X xr es M)(H:Zt M n)(b:n<=zT:=by decide):SE X xr (.List es o7) (qL M):=
 eU h λa A w c e=>by rw[H a A w c e];exact Yc b
def wc:W->W->Hx->R W:=λx y A=>match x with
 |.ref n=>match A[n]? with|some (.lst ws)=>if ws.length<zT then .ok .non (A.set n (.lst (ws++[y]))) else .bad|_=>.bad
 |_=>.bad
noncomputable def Q4 (x:W)(A:Hx):Bool:=match x with
 |.ref n=>match A[n]? with|some (.lst _)=>true|_=>false
 |_=>false
def BC {A:Hx}{w:W}(S:zL K φ A H)(q:RV K φ H w v)(e:Q4 w A=true):Vk K "list" v H:=by
 unfold Q4 at e;cases w with
 |ref n=>
  dsimp only at e;cases E:A[n]? with
  |none=>rw[E]at e;cases e|some o=>cases o with|lst a=>obtain⟨p,b,rfl,_,h,_⟩:=S.lst q E;exact .inl ⟨rfl,_,qS.of h⟩|_=>rw[E]at e;cases e
 |_=>cases e
def yM (g:W->W->Hx->R W)(a b:Ev):Ev:=λc A=>(a c A).bind λx d=>if Q4 x d then(b c d).bind λy e=>g x y e else .bad
def Xv {nm:Str}{id:String}{r:V->List V->Hp->VK->Prop}{g:W->W->Hx->R W}(J:Slot "list" nm id)(i:typeOf (.builtin id)=pure (.type "method_descriptor"))(U:YW X id r)(T:∀x y A,qT (g x y A))
  (D:∀φ A H x y u v Q,zL X.K φ A H->RV X.K φ H u x->RV X.K φ H v y->(g u v A).post (PB X.K φ H Q) Zy->r x [y] H Q)(C:SE X xr a ma)(Y:SE X xr b mb)
  (n:jb b [] X)(c:attributeBase a nm X.env (eval a X.env)=eval a X.env)
  (d:((backTo oH (starEach [b] X.env)).all (λx=>!x.1)&&(backToKw oH (keywordEach [] X.env)).all (λx=>x.1.isSome)
   && decide ([b].length+([]:b0).length+(if ([]:b0).isEmpty then 0 else 1)<30))=true)(e:(oM.endLine==oH.line)=true):
  SE X xr (.Call (.Attribute a nm oM) [b] [] oH) (yM g ma mb):=
 PE.imp (ML PySem.F.plainAttrs_list J i U C (jk Y j3 n) c d e n (by rfl)) λσ H Q ⟨φ,A,ρ,S,N,h⟩=>by
  refine tM.go S N (zS.mp h) λw A1 p H1 v M l o q=>?_
  by_cases j:Q4 w A1=true
  ·rw[ai j]at M
   refine⟨BC o q j,?_⟩;refine tM.go o (N.mono l) (qw (zS.mp M) (λ_ _ z=>z) λ_ _ z=>z.mono l) λt A2 f I P Z L E B=>?_;exact D f A2 I v P w t Q E (q.mono L) B (qw (Yg (T _ _ _) Z) (λ_ _ z=>z.mono (l.trans L)) λ_ _ z=>z)
  ·rw[aj j]at M;exact M.elim
def DG:∀x y A,qT (wc x y A):=λx y A=>by
 unfold wc
 split
 ·split
  ·exact ZM jY jc
  ·exact jc
 ·exact jc
def ZN:W->W->Hx->R W:=λx y A=>match x,y with
 |.ref n,.int i=>match A[n]? with
  |some (.lst ws)=>match (if jl i then seqIndex? i ws.length else none) with
   |some k=>match ws[k]? with|some w=>.ok w (A.set n (.lst (ws.eraseIdx k)))|none=>.bad
   |none=>.bad
  |_=>.bad
 |_,_=>.bad
def Co:∀x y A,qT (ZN x y A):=λx y A=>by
 unfold ZN
 split
 ·split
  ·split
   ·split
    ·exact jY
    ·exact jc
   ·exact jc
  ·exact jc
 ·exact jc
def gD:W->W->W->Hx->R Unit:=λo i v A=>match o,i with
 |.ref n,.int k=>match A[n]? with
  |some (.lst ws)=>match Zd ws.length k with|some j=>.ok () (A.set n (.lst (ws.set j v)))|none=>.bad
  |_=>.bad
 |_,_=>.bad
def Mo:∀o i v A,qT (gD o i v A):=λo i v A=>by
 unfold gD
 split
 ·split
  ·split
   ·exact jY
   ·exact jc
  ·exact jc
 ·exact jc
def ND:M4 K MJ gD:=λu A H o i v a w B Q S f d q p=>by
 unfold gD at p;cases a with
 |ref n=>cases w with
  |int k=>
   obtain rfl:=d;dsimp only at p;cases e:A[n]? with
   |none=>rw[e]at p;exact p.elim|some g=>cases g with
    |lst h=>
     rw[e]at p;dsimp only at p;cases E:Zd h.length k with
     |none=>rw[E]at p;exact p.elim|some j=>
      rw[E]at p;obtain⟨l,x,rfl,y,t,r⟩:=S.lst f e;have L:Le K u H u (upd H l (.lst (x.set j v))):=Le.upd y (λX z=>by rw[t]at z;cases z) (λ_ _ z=>by rw[t]at z;cases z)
      obtain⟨c,b⟩:=S.write (o:=.lst h) (o':=.lst (h.set j B)) e rfl rfl y ⟨_,jR,(r.mono L).set (q.mono L) j⟩;exact⟨l,x,k,j,rfl,rfl,t,by rw[<- r.length];exact E,p _ _ c b⟩
    |_=>rw[e]at p;exact p.elim
  |_=>exact p.elim
 |_=>cases w<;>exact p.elim
variable {m:Ev}
def fw {id:String}{g:W->Hx->R W}(i:j9 X (.builtin id) r)(q:∀w A,qT (g w A))(f:Vi X.K (λv=>r [v]) g)(t:X.mg x=none)(d:bootBuiltins x=some (.builtin id))(j:SE X xr e m)(b:Gl X x:=by rfl)
  (a:x ≠ "__name__":=by decide)(c:yo x:=by decide)(n:jb e [] X:=by rfl)(l:kX o7 [] X:=by rfl):
  SE X xr (.Call (.Name x p) [e] [] o7) (yU g m):=PE.imp (Z3 i b t d (jk j j3 n) a c n l) λo H Q h=>yU.read (r:=λv=>r [v]) q f o H Q h
def fx {id:String}{g:W->Hx->R W}(i:j9 X (.type id) r)(q:∀w A,qT (g w A))(f:Vi X.K (λv=>r [v]) g)(t:X.mg x=none)(d:bootBuiltins x=some (.type id))(j:SE X xr e m)(b:Gl X x:=by rfl)
  (a:x ≠ "__name__":=by decide)(c:yo x:=by decide)(n:jb e [] X:=by rfl)(l:kX o7 [] X:=by rfl):
  SE X xr (.Call (.Name x p) [e] [] o7) (yU g m):=PE.imp (Kk i b t d (jk j j3 n) a c n l) λo H Q h=>yU.read (r:=λv=>r [v]) q f o H Q h
def Mt {id:String}{g:W->W->Hx->R W}(o:j9 X (.builtin id) r)(z:∀w i A,qT (g w i A))(n:yw X.K (λv c=>r [v,c]) g)(B:X.mg x=none)(j:bootBuiltins x=some (.builtin id))(t:SE X xr a ma)(q:SE X xr b mb)(e:Gl X x)
  (d:x ≠ "__name__")(f:yo x)(u:jb a [b] X)(C:jb b [] X)(l:kX o7 [b] X):
  SE X xr (.Call (.Name x p) [a,b] [] o7) (zj g ma mb):=PE.imp (Z3 o e B j (jk t (jk q j3 C) u) d f u l) λy H Q h=>zj.read (r:=λv c=>r [v,c]) z n y H Q h
noncomputable def Ss:W->Hx->R W
 |.int i,A=>.ok (.int (if i<0 then -i else i)) A|_,_=>.bad
noncomputable def Lj:W->Hx->R W
 |.int i,A=>.ok (.int i) A|.bl k,A=>.ok (.int (if k then 1 else 0)) A|_,_=>.bad
def Sr:=Ze λi j=>.int (if j > i then j else i)
def T5:=Ze λi j=>.int (if j<i then j else i)
noncomputable def yu:W->Bool
 |.tup _=>false|.ref _=>false|.clo _ _ _=>false|.xc _=>false|.fn _=>false|_=>true
noncomputable def Jz:W->W->Bool
 |.non,.non=>true|.bl a,.bl b=>a==b|.bl a,.int b=>(if a then 1 else 0)==b|.int a,.bl b=>a==(if b then 1 else 0)|.int a,.int b=>a==b|.str a,.str b=>a==b|_,_=>false
def Y0 (x:W)(X:List W):Bool:=X.any λy=>Jz y x
def Kl {w:W}(q:RV K φ H w v)(e:yu w=true):we v=true:=by
 cases w<;>first
  |(cases e;done)
  |(obtain rfl:=q;rfl)
def Oa {w a:W}{b:V}(q:RV K φ H w v)(Q:RV K φ H a b)(e:yu w=true)(E:yu a=true):gI v b=Jz w a:=by
 cases w<;>cases a<;>first
  |(cases e;done)
  |(cases E;done)
  |(obtain rfl:=q;obtain rfl:=Q;rfl)
theorem Ot {x:W}(q:RV K φ H x v)(e:yu x=true):∀{X:List W}{a:List V},zE K φ H X a->X.all yu=true->a.all we=true/\Vn v a=Y0 x X
 |[],_,r,_=>by cases r;exact⟨rfl,rfl⟩|w::ws,_,⟨y,r,E,h,t⟩,h2=>by
  subst E;rw[all_cons,ak]at h2;obtain⟨I,i⟩:=Ot q e t h2.2;refine⟨by rw[all_cons,Kl h h2.1,I];rfl,?_⟩
  unfold Vn Y0 at i ⊢;rw[any_cons,any_cons,i,Oa h q h2.1 e]
def JA (n:Bool):W->W->Hx->R W:=λx y A=>match zK y A with|some w=>if yu x&&w.all yu then .ok (.bl (if n then !Y0 x w else Y0 x w)) A else .bad|none=>.bad
abbrev LV:=JA false
def fy {n:Bool}:∀x y A,qT (JA n x y A):=λx y A=>by
 unfold JA
 split
 ·exact ZM jY jc
 ·exact jc
def fA {n:Bool}:yw K (LP K n) (JA n):=λc A H x y u v Q S q b p=>by
 unfold JA at p;cases es:zK v A with
 |none=>rw[es]at p;exact p.elim|some w=>
  rw[es]at p;dsimp only at p
  by_cases h:(yu u&&w.all yu)=true
  ·rw[ai h]at p
   rw[ak]at h;obtain⟨a,Y,rfl,z,r⟩:=Gp S b es;obtain⟨I,i⟩:=Ot q h.1 r h.2;exact⟨a,Y,rfl,z,Kl q h.1,I,by rw[i];exact p c H _ .refl S rfl⟩
  ·rw[aj h]at p;exact p.elim
structure Li (X:Cx)(op:CmpOp)(g:W->W->Hx->R W):Prop where
 ex:∃r:R2,qM X (compareOp op) r/\(∀x y A,qT (g x y A))/\yw X.K r g
def fC:Li X .In LV:=⟨_,Dl,fy,fA⟩
end
noncomputable def yy (f:W->Option PyData):List W->Option (List PyData)
 |[]=>some []|w::ws=>match f w,yy f ws with|some d,some D=>some (d::D)|_,_=>none
def qC (A:Hx):Nat->W->Option PyData
 |_,.non=>some .none|_,.bl b=>some (.bool b)|_,.int i=>some (.int i)|_,.str x=>if PyData.strOk x then some (.str x) else none|_,.clo _ _ _=>none|_,.xc _=>none|_,.fn _=>none|0,.tup _=>none|0,.ref _=>none|n+1,.tup ws=>(yy (qC A n) ws).map .tuple|n+1,.ref k=>match zK (.ref k) A with|some ws=>(yy (qC A n) ws).map .list|none=>none
def BS {K:Frag}{A:Hx}{u:List W}(S:zL K φ A H)(q:RV K φ H (.ref n) v)(e:zK (.ref n) A=some u):∃a y,v=.ref a/\qS K H a y/\zE K φ H u y:=by
 obtain⟨a,rfl,c⟩:=q;unfold zK at e;dsimp only at e;cases E:A[n]? with
 |none=>rw[E]at e;cases e|some o=>
  rw[E]at e;obtain⟨d,b,r⟩:=S.ob n o E;rw[c]at b;cases b;cases o with|lst x=>cases e;obtain⟨y,f,h⟩:=r;exact⟨a,y,rfl,qS.of f,h⟩|ro x=>cases e;obtain⟨y,f,h⟩:=r;exact⟨a,y,rfl,f.sq,h⟩|dct x=>cases e|td _=>cases e|tr _=>cases e|tab _ _=>cases e
section
variable {a:Expr}
theorem Um {K:Frag}{f:W->Option PyData}(o:∀w v u d,RV K φ H w v->RelV v u->f w=some d->∃A,Reads h u d A):
  ∀{j:List W}{n:List V}{U:bP}{l:List PyData},zE K φ H j n->Vals n U->yy f j=some l->∃A,ReadsAll h U l A
 |[],_,_,_,r,a,e=>by cases r;cases a;cases e;exact⟨[],.nil⟩|w::j,_,_,l,⟨v,r,i,q,t⟩,a,e=>by
  subst i;cases a with
  |cons g c=>
   unfold yy at e;cases E:f w with
   |none=>rw[E]at e;cases e|some d=>
    cases b:yy f j with
    |none=>rw[E,b]at e;cases e|some D=>
     rw[E,b]at e;cases e;obtain⟨A,x⟩:=o w v _ d q g E;obtain⟨bs,p⟩:=Um o t c b;exact⟨_,.cons x p⟩
def GH {s:Shared}{A:Hx}(I:Inv X o6 σ H s)(S:zL X.K φ A H):∀(n:Nat)(w:W)(v:V)(u:Value)(d:PyData),RV X.K φ H w v->RelV v u->qC A n w=some d->∃C,Reads s.heap u d C:=by
 intro n
 induction n with
 |zero=>
  intro w v u d q r e;cases w with
  |non=>obtain rfl:=q;cases r;cases e;exact⟨_,.none⟩|bl k=>obtain rfl:=q;cases r;cases e;exact⟨_,.bool k⟩|int k=>obtain rfl:=q;obtain⟨t,rfl⟩:=r;cases e;exact⟨_,.int k t⟩|str k=>
   obtain rfl:=q;obtain⟨t,rfl⟩:=r;unfold qC at e
   split at e
   ·cases e;exact⟨_,.str k t⟩
   ·cases e
  |tup _=>cases e|ref _=>cases e|clo _ _ _=>unfold qC at e;cases e|xc _=>unfold qC at e;cases e|fn _=>unfold qC at e;cases e
 |succ n l=>
  intro w v u d q r e;cases w with
  |non=>obtain rfl:=q;cases r;cases e;exact⟨_,.none⟩|bl k=>obtain rfl:=q;cases r;cases e;exact⟨_,.bool k⟩|clo _ _ _=>unfold qC at e;cases e|xc _=>unfold qC at e;cases e|fn _=>unfold qC at e;cases e|int k=>obtain rfl:=q;obtain⟨t,rfl⟩:=r;cases e;exact⟨_,.int k t⟩|str k=>
   obtain rfl:=q;obtain⟨t,rfl⟩:=r;unfold qC at e
   split at e
   ·cases e;exact⟨_,.str k t⟩
   ·cases e
  |tup x=>
   obtain⟨a,J,rfl,h,c⟩:=q;cases r;unfold qC at e;cases E:yy (qC A n) x with
   |none=>rw[E]at e;cases e|some D=>
    rw[E]at e;cases e;obtain⟨i,b,⟨o,B,z,k,g⟩,_⟩:=I.tuple h;obtain⟨C,f⟩:=Um l c b E;exact⟨_,.tuple B z g (by simpa using f)⟩
  |ref k=>
   unfold qC at e;cases E:zK (.ref k) A with
   |none=>rw[E]at e;cases e|some x=>
    rw[E]at e;dsimp only at e;obtain⟨a,y,rfl,h,c⟩:=BS S q E;cases r;cases j:yy (qC A n) x with
    |none=>rw[j]at e;cases e|some D=>
     rw[j]at e;cases e;obtain⟨i,b,⟨o,p,B,z,_,g⟩,_⟩:=I.list h;obtain⟨C,f⟩:=Um l c b j;exact⟨_,.list B z g (by simpa using f)⟩
def Dk {A:Hx}:∀(n:Nat)(w:W)(d:PyData),qC A n w=some d->d.canLay0=true/\d.depth<=n:=by
 intro n;have lst:∀{n:Nat},(∀(w:W)(d:PyData),qC A n w=some d->d.canLay0=true/\d.depth<=n)->∀(ws:List W)(ds:List PyData),yy (qC A n) ws=some ds->PyData.canLayAll0 ds=true/\PyData.depthAll ds<=n:=by
  intro n i ws
  induction ws with
  |nil=>intro ds e;cases e;exact⟨by simp[PyData.canLayAll0],by simp[PyData.depthAll]⟩|cons w ws I=>
   intro ds e;unfold yy at e;cases E:qC A n w with
   |none=>rw[E]at e;cases e|some d=>
    cases b:yy (qC A n) ws with
    |none=>rw[E,b]at e;cases e|some D=>
     rw[E,b]at e;cases e;obtain⟨f,g⟩:=i w d E;obtain⟨H,c⟩:=I D b;refine⟨by simp[PyData.canLayAll0,f,H],?_⟩
     simp only[PyData.depthAll];lia
 induction n with
 |zero=>
  intro w d e;cases w with
  |tup _=>cases e|ref _=>cases e|clo _ _ _=>unfold qC at e;cases e|xc _=>unfold qC at e;cases e|fn _=>unfold qC at e;cases e|str x=>
   unfold qC at e
   split at e
   ·rename_i h;cases e;exact⟨by simp[PyData.canLay0,h],by simp[PyData.depth]⟩
   ·cases e
  |_=>cases e;exact⟨by simp[PyData.canLay0],by simp[PyData.depth]⟩
 |succ n i=>
  intro w d e;cases w with
  |clo _ _ _=>unfold qC at e;cases e|xc _=>unfold qC at e;cases e|fn _=>unfold qC at e;cases e|tup ws=>
   unfold qC at e;cases a:yy (qC A n) ws with
   |none=>rw[a]at e;cases e|some ds=>
    rw[a]at e;cases e;obtain⟨f,g⟩:=lst i ws ds a;refine⟨by simp[PyData.canLay0,f],?_⟩
    simp only[PyData.depth];lia
  |ref k=>
   unfold qC at e;cases a:zK (.ref k) A with
   |none=>rw[a]at e;cases e|some ws=>
    rw[a]at e;dsimp only at e;cases E:yy (qC A n) ws with
    |none=>rw[E]at e;cases e|some ds=>
     rw[E]at e;cases e;obtain⟨f,g⟩:=lst i ws ds E;refine⟨by simp[PyData.canLay0,f],?_⟩
     simp only[PyData.depth];lia
  |str x=>
   unfold qC at e
   split at e
   ·rename_i h;cases e;exact⟨by simp[PyData.canLay0,h],by simp[PyData.depth]⟩
   ·cases e
  |_=>cases e;exact⟨by simp[PyData.canLay0],by simp[PyData.depth]⟩
noncomputable def wX (n:Bool):W->W->Hx->R W:=λx y A=>match qC A 8 x,qC A 8 y with|some d,some D=>.ok (.bl (if n then !PyData.eqv d D else PyData.eqv d D)) A|_,_=>.bad
abbrev yd:=wX false
abbrev ju:=wX true
def NU {n:Bool}:∀x y A,qT (wX n x y A):=λx y A=>by
 unfold wX
 split
 ·exact jY
 ·exact jc
def SN (K:Frag)(n:Bool):R2:=λx y H Q=>∃a A u v d D,zL K a A H/\RV K a H u x/\RV K a H v y/\qC A 8 u=some d/\qC A 8 v=some D/\Q (.bl (if n then !PyData.eqv d D else PyData.eqv d D)) H
def G5 {A:Hx}{w:W}{d:PyData}(h:qC A 8 w=some d):SeqAt.shaped d=true:=by obtain⟨H,a⟩:=Dk 8 w d h;unfold SeqAt.shaped;rw[H,Bool.true_and,aq];lia
def fD (f:X.A.units+64<cLine):qM X (compareOp .Eq) (SN X.K false):=by intro p s l H x y v u Q I rx ry h;obtain⟨j,A,a,w,d,D,S,c,b,E,e,q⟩:=h;obtain⟨n,i⟩:=GH I S 8 a x v d c rx E;obtain⟨bs,g⟩:=GH I S 8 w y u D b ry e;exact eq_dataH i g (G5 E) (G5 e) f ⟨.bl _,H,I,rfl,q⟩
def fE (f:X.A.units+64<cLine):qM X (compareOp .NotEq) (SN X.K true):=by intro p s l H x y v u Q I rx ry h;obtain⟨j,A,a,w,d,D,S,c,b,E,e,q⟩:=h;obtain⟨n,i⟩:=GH I S 8 a x v d c rx E;obtain⟨bs,g⟩:=GH I S 8 w y u D b ry e;exact ne_dataH i g (G5 E) (G5 e) f ⟨.bl _,H,I,rfl,q⟩
def Nw {K:Frag}{n:Bool}:yw K (SN K n) (wX n):=λb A H x y u v Q S a q p=>by
 unfold wX at p;cases e:qC A 8 u with
 |none=>rw[e]at p;exact p.elim|some d=>
  cases E:qC A 8 v with
  |none=>rw[e,E]at p;exact p.elim|some D=>
   rw[e,E]at p;exact⟨b,A,u,v,d,D,S,a,q,e,E,p b H _ .refl S rfl⟩
def wW {k:Nat}(h:jd k X.A):wR X .Eq yd:=Jq (fD h.units) NU Nw
def kF {k:Nat}(h:jd k X.A):wR X .NotEq ju:=Jq (fE h.units) NU Nw
end
mutual
noncomputable def W.nr:W->Bool
 |.tup w=>qN w|.ref _=>false|.clo _ w _=>qN w|_=>true
noncomputable def qN:List W->Bool
 |[]=>true|w::ws=>w.nr&&qN ws
end
def iso (f:Fn):Fn:=λu A=>if qN u then(match f u [] with
 |.ok w a=>(match w with
  |.ref n=>(match a[n]? with|some (.lst ws)=>if qN ws then .ok (.ref A.length) (A++[.lst ws]) else .bad|some (.dct kvs)=>if qN (kvs.map (·.2)) then .ok (.ref A.length) (A++[.dct kvs]) else .bad|_=>.bad)
  |w=>if w.nr then .ok w A else .bad)
 |_=>.bad) else .bad
def kI (f:Fn):Fn:=λu A=>match u with
 |.ref n::u=>(match A[n]? with
  |some (.lst ws)=>if qN ws&&qN u then(match f (.ref 0::u) [.lst ws] with
   |.ok w a=>(match (List.head? a:Option O) with|some (.lst ws2)=>if qN ws2&&w.nr then .ok w (A.set n (.lst ws2)) else .bad|_=>.bad)
   |_=>.bad) else .bad
  |_=>.bad)
 |_=>.bad
section
variable {K:Frag}{oJ oO:bQ}{H' H1:Hp}{A A1:Hx}
mutual
theorem RV.nrm (tp:∀a vs,qA K H a vs->qA K H' a vs)(z:∀a o u,H a=some (.frz o u)->H' a=some (.frz o u)):∀{w:W}{v:V},w.nr=true->RV K φ H w v->RV K oJ H' w v
 |.non,_,_,h=>h|.bl _,_,_,h=>h|.int _,_,_,h=>h|.str _,_,_,h=>h|.tup j,_,n,⟨a,vs,e,t,r⟩=>⟨a,vs,e,tp _ _ t,zE.nrm tp z n r⟩|.ref _,_,n,_=>nomatch n
 |.clo _ j P,_,n,⟨a,ob,u,c,d,U,vs,e,i,g,f,r⟩=>⟨a,ob,u,c,d,U,vs,e,z _ _ _ i,z _ _ _ g,f,zE.nrm tp z n r⟩|.xc _,_,_,⟨a,b,u,C,e,i,g⟩=>⟨a,b,u,C,e,z _ _ _ i,g⟩|.fn _,_,_,h=>h
theorem zE.nrm (tp:∀a c,qA K H a c->qA K H' a c)(f:∀a o u,H a=some (.frz o u)->H' a=some (.frz o u)):∀{b:List W}{c:List V},qN b=true->zE K φ H b c->zE K oJ H' b c
 |[],_,_,h=>h|w::b,_,n,⟨v,r,e,h,t⟩=>by have N:(w.nr&&qN b)=true:=n;rw[ak]at N;exact⟨v,r,e,RV.nrm tp f N.1 h,zE.nrm tp f N.2 t⟩
end
def zL.none:zL K [] [] H:=⟨rfl,λi j a o b _ _ h=>by simp at h,λn o h=>by simp at h⟩
def zL.frame (S:zL K φ A H)(k:∀a o,H a=some o->H1 a=some o)(l:Le K φ H φ H1):zL K φ A H1:=
 ⟨S.len,S.inj,λn o e=>let ⟨a,b,q⟩:=S.ob n o e;⟨a,b,q.keep l λu h=>k a u h⟩⟩
def Le.apart (l:Le K [] H oO H1):Le K φ H φ H1/\∀a o,H a=some o->H1 a=some o:=
 have k:∀a o,H a=some o->H1 a=some o:=λa o h=>l.fr a o h λn e=>by simp at e
 ⟨⟨λ_ _ h=>h,l.tp,λa o h _=>k a o h,λ_ _ h=>.inl h,l.st,l.fz⟩,k⟩
def zL.trackN {u:HO}{o:O}(S:zL K φ A H)(I:H D=some u)(n:∀(k:Nat)(q:O),φ[k]? =some D->A[k]? =some q->q.mut=false)(new:OR K (φ++[D]) H D o):zL K (φ++[D]) (A++[o]) H:=by
 have l:Qz K φ H (φ++[D]) H:=⟨λn a h=>by
  have:=(cj.mp h).1
  rw[ah this];exact h,λ_ _ h=>h,λ_ _ _ h=>h⟩
 have L:∀(i:Nat) a,(φ++[D])[i]? =some a->i<A.length->φ[i]? =some a:=λi a e f=>by rw[ah (by rw[S.len];exact f)]at e;exact e
 have M:∀a,(φ++[D])[A.length]? =some a->a=D:=λa e=>by
  rw[ar (by rw[S.len];exact ao _),S.len]at e
  simpa using e.symm
 refine⟨by simp[S.len],λi j a C B P N g b X U=>?_,λk T e=>?_⟩
 ·by_cases f:i<A.length
  ·rw[ah f]at g
   by_cases c:j<A.length
   ·rw[ah c]at b
    exact S.inj i j a C B (L i a P f) (L j a N c) g b X U
   ·exfalso
    have w:j=A.length:=by have:=(cj.mp b).1;simp at this;lia
    subst w;have z:=n i C (by rw[<- M a N];exact L i a P f) g
    rw[X]at z;cases z
  ·have y:i=A.length:=by have:=(cj.mp g).1;simp at this;lia
   by_cases c:j<A.length
   ·exfalso
    rw[ah c]at b;subst y;have z:=n j B (by rw[<- M a P];exact L j a N c) b
    rw[U]at z;cases z
   ·have:=(cj.mp b).1;simp at this;lia
 ·by_cases Y:k<A.length
  ·rw[ah Y]at e
   obtain⟨a,E,q⟩:=S.ob k T e;refine⟨a,l.ex _ _ E,?_⟩;cases T with|lst Q=>obtain⟨J,z,r⟩:=q;exact⟨J,z,r.monoW l⟩|dct Q=>obtain⟨J,z,Z,r⟩:=q;exact⟨J,z,Z,r.monoW l⟩|td _=>obtain⟨J,z,Z,t,r⟩:=q;exact⟨J,z,Z,λx p=>l.tp _ _ (t x p),r.monoW l⟩|tr _=>obtain⟨ob,u,J,z,d,Z,t,r⟩:=q;exact⟨ob,u,J,z,d,Z,λx p=>l.tp _ _ (t x p),r.monoW l⟩|tab _ _=>exact q|ro Q=>obtain⟨J,z,r⟩:=q;exact⟨J,z,r.monoW l⟩
  ·have v:k=A.length:=by have:=(cj.mp e).1;simp at this;lia
   subst v;rw[ar (ao _)]at e;simp at e;subst e;exact⟨D,by rw[ar (by rw[S.len];exact ao _),S.len];simp,new⟩
def zL.adopt {o:O}(S:zL K φ A H)(l:Le K [] H oO H1)(p:oO[n]? =some a)(m:∃u,H1 a=some u)(new:OR K (φ++[a]) H1 a o):
  Le K φ H (φ++[a]) H1/\zL K (φ++[a]) (A++[o]) H1/\RV K (φ++[a]) H1 (.ref A.length) (.ref a):=by
 obtain⟨L,k⟩:=l.apart (φ:=φ);have j:H a=Option.none:=by
  rcases l.nw n a p with e|e
  ·simp at e
  ·exact e
 obtain⟨u,b⟩:=m;have g:=S.frame k L;refine⟨L.YB j,g.trackN b (λk q f d=>?_) new,a,rfl,by rw[<- S.len];simp⟩
 cases c:q.mut with
 |false=>rfl|true=>
  obtain⟨i,E,r⟩:=S.ob k q d;rw[f]at E;cases E;obtain⟨z,h,_⟩:=r.there c;rw[j]at h;cases h
def OR.nrL {w:List W}(h:OR K φ H a (.lst w))(n:qN w=true):OR K oJ H a (.lst w):=let ⟨v,e,r⟩:=h;⟨v,e,r.nrm (λ_ _ t=>t) (λ_ _ _ t=>t) n⟩
def OR.nrD {b:List (Key×W)}(h:OR K φ H a (.dct b))(n:qN (b.map (·.2))=true):OR K oJ H a (.dct b):=let ⟨v,e,E,r⟩:=h;⟨v,e,E,r.nrm (λ_ _ t=>t) (λ_ _ _ t=>t) n⟩
theorem qG.iso {k:Nat}{f:Fn}(F:qG P w K mg base k x n f):qG P w K mg base k x n (iso f):=by
 obtain⟨fa,fd,ps,F,a,b,c⟩:=F;refine⟨fa,fd,ps,F.imp λvs H Q E ⟨z,I,A,J,S,r,q⟩=>?_,a,b,c⟩;unfold Mi.iso at q
 by_cases N:qN J=true
 ·rw[ai N]at q
  refine⟨z,[],[],J,zL.none,r.nrm (λ_ _ t=>t) (λ_ _ _ t=>t) N,?_⟩;cases hf:f J [] with
  |ok w Y=>
   rw[hf]at q;dsimp only at q;intro u X v L C g;cases w with
   |ref m=>
    dsimp only at q;cases hm:Y[m]? with
    |none=>rw[hm]at q;exact q.elim|some o=>
     rw[hm]at q;obtain⟨D,i,d⟩:=C.ob m o hm;obtain⟨a2,rfl,e⟩:=g;rw[i]at e;cases e;cases o with
     |lst U=>
      dsimp only at q
      by_cases h:qN U=true
      ·rw[ai h]at q
       obtain⟨t,M,_⟩:=d.there rfl;obtain⟨p,j,B⟩:=S.adopt L i ⟨t,M⟩ (o:=.lst U) (d.nrL h);exact q _ _ _ p j B
      ·rw[aj h]at q;exact q.elim
     |dct U=>
      dsimp only at q
      by_cases h:qN (U.map (·.2))=true
      ·rw[ai h]at q
       obtain⟨t,M,_⟩:=d.there rfl;obtain⟨p,j,B⟩:=S.adopt L i ⟨t,M⟩ (o:=.dct U) (d.nrD h);exact q _ _ _ p j B
      ·rw[aj h]at q;exact q.elim
     |ro U=>exact q.elim|td _=>exact q.elim|tr _=>exact q.elim|tab _ _=>exact q.elim
   |_=>
    all_goals
     dsimp only at q;obtain⟨l,T⟩:=L.apart (φ:=I)
     first
      |exact q I X v l (S.frame T l) g
      |(
        split at q
        ·rename_i Z
         exact q I X v l (S.frame T l) (RV.nrm (λ_ _ t=>t) (λ_ _ _ t=>t) Z g)
        ·exact q.elim)
  |exc y Y=>rw[hf]at q;exact q.elim|bad=>rw[hf]at q;exact q.elim
 ·rw[aj N]at q;exact q.elim
theorem qG.kI {k:Nat}{f:Fn}(F:qG P w K mg base k x n f):qG P w K mg base k x n (kI f):=by
 obtain⟨fa,fd,ps,F,a,b,c⟩:=F;refine⟨fa,fd,ps,F.imp λvs H Q E ⟨hl,φ,A,ws,S,r,q⟩=>?_,a,b,c⟩;unfold Mi.kI at q;cases ws with
 |nil=>exact q.elim|cons w0 us=>cases w0 with
  |ref n=>
   dsimp only at q;cases l:A[n]? with
   |none=>rw[l]at q;exact q.elim|some o=>cases o with
    |lst xs=>
     rw[l]at q;dsimp only at q
     by_cases hn:(qN xs&&qN us)=true
     ·rw[ai hn]at q
      rw[ak]at hn;obtain⟨v0,vr,rfl,q0,qr⟩:=r;obtain⟨p,Y,rfl,f1,g1,g⟩:=S.lst q0 l;have S0:zL K [p] [.lst xs] H:=by
       refine⟨rfl,λi j a o o' h1 h2 T N _ _=>?_,λm o e=>?_⟩
       ·have:=(cj.mp h1).1
        have:=(cj.mp h2).1
        simp at*;lia
       ·have:m=0:=by have:=(cj.mp e).1;simp at this;lia
        subst this;simp at e;subst e;exact⟨p,rfl,Y,g1,g.nrm (λ_ _ t=>t) (λ_ _ _ t=>t) hn.1⟩
      refine⟨hl,[p],[.lst xs],.ref 0::us,S0,.cons ⟨p,rfl,rfl⟩ (qr.nrm (λ_ _ t=>t) (λ_ _ _ t=>t) hn.2),?_⟩;cases hf:f (.ref 0::us) [.lst xs] with
      |ok w A1=>
       rw[hf]at q;dsimp only at q;intro C H1 v L S1 q1;cases h0:List.head? A1 with
       |none=>rw[h0]at q;exact q.elim|some o=>cases o with
        |lst zs=>
         rw[h0]at q;dsimp only at q
         by_cases hw:(qN zs&&w.nr)=true
         ·rw[ai hw]at q
          rw[ak]at hw;have apart:∀a o,a≠p->H a=some o->H1 a=some o:=λa o ne h=>L.fr a o h λm e=>by
           have:m=0:=by have:=(cj.mp e).1;simp at this;lia
           subst this;simp at e;exact ne e.symm
          have lf:Le K φ H φ H1:=⟨λ_ _ h=>h,L.tp,λa o h nn=>apart a o (λe=>nn n (by rw[e];exact f1)) h,λ_ _ h=>.inl h,L.st,L.fz⟩
          have hp:C[0]? =some p:=L.ex 0 p rfl;obtain⟨p',B,U,J,I⟩:=S1.ob 0 _ (by rw[<- List.head?_eq_getElem?];exact h0)
          rw[hp]at B;cases B;refine q φ H1 v lf ?_ (RV.nrm (λ_ _ t=>t) (λ_ _ _ t=>t) hw.2 q1);have mt:∀(i:Nat)(w:O),(A.set n (.lst zs))[i]? =some w->w.mut=true->∃M,A[i]? =some M/\M.mut=true:=λi w e mw=>by
           by_cases hi:i=n
           ·subst hi;exact⟨_,l,rfl⟩
           ·rw[au (Ne.symm hi)]at e;exact⟨w,e,mw⟩
          refine⟨by simp[S.len],λi j a o1 o2 h1 h2 T N m1 m2=>?_,λi w e=>?_⟩
          ·obtain⟨Z,B,k1⟩:=mt i o1 T m1
           obtain⟨X,J,k2⟩:=mt j o2 N m2;exact S.inj i j a Z X h1 h2 B J k1 k2
          ·by_cases hi:i=n
           ·subst hi
            have:i<A.length:=(cj.mp l).1
            rw[aw this]at e;cases e;exact⟨p,f1,U,J,I.nrm (λ_ _ t=>t) (λ_ _ _ t=>t) hw.1⟩
           ·rw[au (Ne.symm hi)]at e
            obtain⟨a,B,D⟩:=S.ob i w e;refine⟨a,B,?_⟩
            by_cases hm:w.mut=true
            ·have ne:a≠p:=λz=>hi (S.inj i n a w _ B (by rw[z];exact f1) e l hm rfl)
             exact D.keep lf λz hz=>apart a z ne hz
            ·cases w with
             |lst _=>exact absurd rfl hm|dct _=>exact absurd rfl hm|td _=>exact absurd rfl hm|tr _=>obtain⟨ob,u,vs,q,d,k,t,r⟩:=D;exact⟨ob,u,vs,lf.fz _ _ _ q,d,k,λx hx=>lf.tp _ _ (t x hx),r.mono lf⟩|tab _ _=>exact absurd rfl hm|ro ws=>
              obtain⟨vs,g,I⟩:=D;refine⟨vs,?_,I.mono lf⟩;rcases g with ⟨ob,g⟩|g
              ·refine .inl ⟨ob,apart a _ ?_ g⟩
               intro z;subst z;rw[g1]at g;cases g
              ·exact .inr g
         ·rw[aj hw]at q;exact q.elim
        |_=>rw[h0]at q;exact q.elim
      |exc y A1=>rw[hf]at q;exact q.elim|bad=>rw[hf]at q;exact q.elim
     ·rw[aj hn]at q;exact q.elim
    |_=>rw[l]at q;exact q.elim
  |_=>exact q.elim
end
section
variable {K:Frag}{a b:Expr}{m:Ev}{st:Stmt}
noncomputable def intsOf:List W->Option (bN)
 |[]=>some []|w::ws=>match w with
  |.int i=>match intsOf ws with|some I=>some (i::I)|none=>none
  |_=>none
theorem Gx:∀{a:List W}{n:bN},intsOf a=some n->a=n.map W.int
 |[],_,e=>by cases e;rfl|w::a,n,e=>by
  unfold intsOf at e;cases w with
  |int i=>
   dsimp only at e;cases E:intsOf a with|none=>rw[E]at e;cases e|some I=>rw[E]at e;cases e;rw[Gx E];rfl
  |_=>cases e
noncomputable def yk:List Int->Int->Int
 |[],m=>m|i::is,m=>yk is (if i > m then i else m)
noncomputable def kH:List Int->Int->Int
 |[],m=>m|i::is,m=>kH is (m+i)
def preSum_eq (n:bN):∀k,preSum (λi=>n.getD i 0) k+kH (n.drop k) 0=kH n 0∨n.length<k:=by
 have add:∀(l:bN)(m:Int),kH l m=m+kH l 0:=λl=>by
  induction l with|nil=>intro m;show m=m+0;lia|cons i b I=>intro m;show kH b (m+i)=m+kH b (0+i);rw[I (m+i),I (0+i)];lia
 intro k
 induction k with
 |zero=>left;show(0:Int)+kH n 0=_;lia|succ k I=>
  rcases I with I|I
  ·by_cases h:k<n.length
   ·left
    have e:n.drop k=n[k]::n.drop (k+1):=List.drop_eq_getElem_cons h;rw[e]at I;have a:kH (n[k]::n.drop (k+1)) 0=n[k]+kH (n.drop (k+1)) 0:=by show kH (n.drop (k+1)) (0+n[k])=_;rw[add];lia
    rw[a]at I;show preSum _ k+n.getD k 0+_=_;have E:n.getD k 0=n[k]:=by rw[aa,ae h];rfl
    rw[E];lia
   ·right;lia
  ·right;lia
def EV (n:bN):preSum (λi=>n.getD i 0) n.length=kH n 0:=by
 rcases preSum_eq n n.length with h|h
 ·rw[drop_length]at h
  have:kH [] 0=0:=rfl
  lia
 ·lia
def DZ (n:bN):∀(k:Nat)(a:k<n.length),yk (n.drop (k+1)) (n.getD (argBest (λi j=>decide (n.getD i 0 > n.getD j 0)) k) 0)=yk n.tail (n.getD 0 0):=by
 intro k
 induction k with
 |zero=>intro _;rw[show argBest _ 0=0 from rfl,List.drop_one]|succ k I=>
  intro a;have H:k<n.length:=by lia
  rw[<- I H];have e:n.drop (k+1)=n[k+1]::n.drop (k+1+1):=List.drop_eq_getElem_cons a;rw[e];have E:n.getD (k+1) 0=n[k+1]:=by rw[aa,ae a];rfl
  show yk _ (n.getD (if decide (n.getD (k+1) 0 > n.getD (argBest _ k) 0)=true then k+1 else argBest _ k) 0)=yk _ (if n[k+1] > n.getD (argBest _ k) 0 then n[k+1] else n.getD (argBest _ k) 0);rw[E]
  by_cases h:n[k+1] > n.getD (argBest (λi j=>decide (n.getD i 0 > n.getD j 0)) k) 0
  ·rw[ai (by rw[aq];exact h),ai h,E]
  ·rw[aj (by rw[aq];exact h),aj h]
def Xx (K:Frag)(C:List Int->Prop)(f:List Int->Int):List V->Hp->VK->Prop:=λx H Q=>∃a n,x=[.ref a]/\(qS K H a (n.map V.int)∨qA K H a (n.map V.int))/\C n/\Q (.int (f n)) H
def G0 (r:Vals (ns.map V.int) oI){v:Value}(h:oI[i]? =some v):∃t,v=.int (ns.getD i 0) t:=by
 have a:i<oI.length:=(cj.mp h).1;have H:i<ns.length:=by have:=r.length;rw[ag]at this;lia
 obtain⟨u,b,c⟩:=r.get (i:=i) (x:=V.int ns[i]) (by simp[H])
 rw[h]at b;cases b;obtain⟨t,rfl⟩:=c;exact⟨t,by rw[aa,ae H];rfl⟩
def DC (f:X.calm=true):j9 X (.builtin "sum") (Xx X.K (λ_=>True) λns=>kH ns 0):=by
 intro P s x H y U Q I r h;obtain⟨a,ns,rfl,z,_,q⟩:=h;obtain⟨u,rfl,d⟩:=vals1 r;cases d;refine call_sum_walkG (Gz I f z λb g o w S A c j W l p B=>?_);refine⟨g,o,w,_,_,S,λi=>ns.getD i 0,rfl,W,l,p,λi v h=>G0 c h,λn t T k=>?_⟩;have e:b.length=ns.length:=by have:=c.length;rw[ag]at this;lia
 rw[e,EV];exact⟨.int _,H,B n t k,⟨_,rfl⟩,q⟩
def Dj (o:X.calm=true):j9 X (.builtin "max") (Xx X.K (λns=>ns≠[]) λns=>yk ns.tail (ns.getD 0 0)):=by
 intro P s σ H xs us Q I r h;obtain⟨a,ns,rfl,z,f,q⟩:=h;obtain⟨u,rfl,l⟩:=vals1 r;cases l;have L:0<ns.length:=List.length_pos_iff.mpr f;refine call_max_walk (Gz I o z λd y fp N S s2 c J W Y p M=>?_);have e:d.length=ns.length:=by have:=c.length;rw[ag]at this;lia
 refine⟨y,fp,N,_,_,S,λi j=>decide (ns.getD i 0 > ns.getD j 0),rfl,W,Y,p,by lia,?_,λv h' T n k=>?_⟩
 ·intro i j D C Z Q' E h1 h2 x
  obtain⟨U,rfl⟩:=G0 c h1;obtain⟨g,rfl⟩:=G0 c h2;exact(PyProof.Rows.gt_int x:wpAny (model X.prog X.w) X.A.in1 (compareOp .Gt (.int (ns.getD i 0) U) (.int (ns.getD j 0) g)) Q' E Z)
 ·obtain⟨t,rfl⟩:=G0 c n
  rw[e];have b:=DZ ns (ns.length-1) (by lia)
  rw[show ns.length-1+1=ns.length by lia,drop_length]at b
  have B:ns.getD (argBest (λi j=>decide (ns.getD i 0 > ns.getD j 0)) (ns.length-1)) 0=yk ns.tail (ns.getD 0 0):=b;rw[B];exact⟨.int _,H,M h' T k,⟨_,rfl⟩,q⟩
def wY:List W->Hx->R W:=λw A=>match intsOf w with|some (i::is)=>.ok (.int (yk is i)) A|_=>.bad
def gE:List W->Hx->R W:=λw A=>match intsOf w with|some i=>.ok (.int (kH i 0)) A|none=>.bad
def fF:∀ws A,qT (wY ws A):=λws A=>by
 unfold wY;split
 ·exact jY
 ·exact jc
def fG:∀ws A,qT (gE ws A):=λws A=>by
 unfold gE;split
 ·exact jY
 ·exact jc
def PL {w:List W}{a:Addr}(z:qS K H a ys∨qA K H a ys)(r:zE K φ H w ys)(e:intsOf w=some ns):qS K H a (ns.map V.int)∨qA K H a (ns.map V.int):=by rw[Gx e]at r;rw[<- zE.ints.mp r];exact z
def Ar:Q6 K (Xx K (λns=>ns≠[]) λns=>yk ns.tail (ns.getD 0 0)) wY:=λb A H a y w Q S z r p=>by
 unfold wY at p;cases e:intsOf w with
 |none=>rw[e]at p;exact p.elim|some ns=>cases ns with|nil=>rw[e]at p;exact p.elim|cons i I=>rw[e]at p;exact⟨a,i::I,rfl,PL z r e,(by intro z;cases z),p b H _ .refl S rfl⟩
def fH:Q6 K (Xx K (λ_=>True) λns=>kH ns 0) gE:=λb A H a y w Q S z r p=>by
 unfold gE at p;cases e:intsOf w with|none=>rw[e]at p;exact p.elim|some ns=>rw[e]at p;exact⟨a,ns,rfl,PL z r e,trivial,p b H _ .refl S rfl⟩
def QZ (y:W):List W->Nat->Nat
 |[],n=>n|w::ws,n=>QZ y ws (if Jz w y then n+1 else n)
theorem GP (y:W):∀(a:List W)(n:Nat),QZ y a n=n+a.countP λw=>Jz w y
 |[],n=>by simp[QZ]|w::a,n=>by
  show QZ y a _=_;rw[GP y a,bG]
  by_cases h:Jz w y=true
  ·rw[ai h,ai h];lia
  ·rw[aj h,aj h];lia
def Xp:W->W->Hx->R W:=λx y A=>match x with|.tup w=>if yu y&&w.all yu then .ok (.int (QZ y w 0)) A else .bad|_=>.bad
def fJ (K:Frag):V->List V->Hp->VK->Prop:=λx v H Q=>∃a X y,x=.ref a/\v=[y]/\qA K H a X/\we y=true/\X.all we=true/\Q (.int (X.countP λz=>gI z y)) H
theorem Uc {y:V}:∀{x:List V}{u:bP},Vals x u->x.all we=true->u.countP (Zc y)=x.countP λz=>gI z y
 |_,_,.nil,_=>rfl|_,_,.cons r t,h=>by rw[all_cons,ak]at h;rw[bG,bG,Uc t h.2,To r h.1]
def Cs:YW X "tuple.count" (fJ X.K):=by
 intro p s l H x A v U Q I rx b h;obtain⟨a,w,y,rfl,rfl,t,g,f,q⟩:=h;cases rx;obtain⟨u,rfl,d⟩:=b.one;obtain⟨i,r,P,_⟩:=I.tuple t;obtain⟨⟨C,D,data,S⟩,o,c,n,j⟩:=id P;simp only at c j;subst c j;refine call_meets F.slot_tuple_count ⟨_,o,rfl⟩ F.entry_tuple_count (F.args_tuple_count_2 _ _) (SeqAt.tuple_countAt a i.toArray n D S u (Zc y)) ⟨o,λz e=>Ko d g r f z (by simpa using e),?_⟩
 refine⟨.int _,H,I.tok _,⟨_,rfl⟩,?_⟩;rw[<- Uc r f]at q;simpa using q
def TH (g:W->W->Hx->R W)(a b:Ev):Ev:=λc A=>(a c A).bind λx e=>match x with|.tup w=>(b c e).bind λy d=>g (.tup w) y d|_=>.bad
def fK (K:Frag)(r:V->List V->Hp->VK->Prop)(to:TE)(t:TA):TE:=λa H Q=>to a H λx b=>∃p y,x=.ref p/\qA K b p y/\t a b λX h=>r x X h Q
def fL {o:Expr}{to:TE}{t:TA}{N:Str}{id:String}{r:V->List V->Hp->VK->Prop}(S:Slot "tuple" N id)(y:typeOf (.builtin id)=pure (.type "method_descriptor"))(hm:YW X id r)(u:PE X o to)(z:PA X (e::es) t)
  (c:attributeBase o N X.env (eval o X.env)=eval o X.env)
  (w:((backTo oH (starEach (e::es) X.env)).all (λx=>!x.1)&&(backToKw oH (keywordEach [] X.env)).all (λx=>x.1.isSome)
   && decide ((e::es).length+([]:b0).length+(if ([]:b0).isEmpty then 0 else 1)<30))=true)
  (b:(oM.endLine==oH.line)=true)(l:jb e es X)(n:kX oH es X):
  PE X (.Call (.Attribute o N oM) (e::es) [] oH) (fK X.K r to t):=by
 intro P s J H Q I h;refine wpAny_Call_method_late c w b rfl (zQ (u P s J H _ I h) λv T ⟨x,H1,i,f,p,Y,E,ty,g⟩=>?_);subst E;cases f;obtain⟨j,_,Z,_⟩:=i.tuple ty;refine⟨"tuple",id,PySem.F.plainAttrs_tuple,S,y,Z.typeIs,λa B=>by cases B;exact i.tupleN ty,?_⟩
 have A:=z oH P T J H1 _ i g;rw[l]at A ⊢;refine Calls.callWith_builtin (by show(false || (backTo oH (starEach es X.env)).any (·.1))=false;rw[n];rfl) (Calls.evalArgs_plain ?_)
 exact zQ A λU M ⟨L,D,C,d,q⟩=>hm P M J D (.ref p) L (.ref p) U Q C rfl d q
theorem Ua {x:W}(q:RV K φ H x v)(e:yu x=true):∀{X:List W}{a:List V},zE K φ H X a->X.all yu=true->a.all we=true/\(a.countP λz=>gI z v)=X.countP λz=>Jz z x
 |[],_,r,_=>by cases r;exact⟨rfl,rfl⟩|w::ws,_,⟨y,r,E,h,t⟩,h2=>by
  subst E;rw[all_cons,ak]at h2;obtain⟨I,i⟩:=Ua q e t h2.2;refine⟨by rw[all_cons,Kl h h2.1,I];rfl,?_⟩
  rw[bG,bG,i,Oa h q h2.1 e]
variable {c:Expr}
noncomputable def Rm (l d:Int)(n:Nat):It:=⟨λi _=>i<n,λi H x h=>h=H/\x=.int (l+i * d),λi _=>n<=i⟩
def Ej (B:Addr)(L d:Int)(n:Nat):Turn P w K tg (Rm L d n) [B] B (λi h=>IsRangeIter h B (L+(i:Nat) * d) ((n:Int)-(i:Nat)) d) where
 mem:=by simp
 obj:=λi h y b a=>by
  have q:b=B:=by simpa using a
  subst q;exact⟨_,y,λv z=>nomatch (show Data.fields _=Data.cell v from z)⟩
 keep:=λi h D y k=>k B (by simp) _ y
 item:=by
  intro X e J f c i A s U H E I C y g;subst e J f;obtain⟨Q,N,Z,l,M,j⟩:=C B (by simp)
  have u:=Walks.range (prog:=X.prog) (w:=X.w) (I.ok.hd c) B L d n;refine u.item i s _ _ g y λv D T r S Y=>?_;obtain⟨t,rfl⟩:=r;have x:Inv X A U H { s with heap:=D,toks:=T }:=I.turned (λb o a p=>Y b o (by simpa using a) p) Q N l M j
  exact⟨_,rfl,XB (s:={ s with heap:=D,toks:=T }) (n := "range_iterator") S rfl rfl (by decide) ⟨.int (L+i * d),H,x,⟨t,rfl⟩,⟨rfl,rfl⟩,S,λb a=>(C b a).1⟩⟩
 done:=by
  intro X e J f c i A s U H E I C y g;subst e J f;obtain⟨Q,N,Z,l,M,j⟩:=C B (by simp)
  exact wpAny_pyNext_range_end (I.ok.hd c) y (by have hn:n<=i:=g;lia) λD q=>⟨rfl,I.turned (t':=s.toks) (λb o a p=>q b o a p) Q N l M j⟩
 self:=λ_ _ _ _ _ y h=>wpAny_pyIter_rangeiter y h
def rangeSize_down (x y:Int):Builtin.Range.rangeSize x y (-1)=((x-y).toNat:Int):=by
 unfold Builtin.Range.rangeSize;rw[aj (by decide)]
 split
 ·rw[show -(-1:Int)=1 by rfl,Int.ediv_one];lia
 ·lia
def small_down {x y:Int}(b:-(2 ^ 62)<=x)(a:x<2 ^ 62)(H:-(2 ^ 62)<=y)(h:y<2 ^ 62):Builtin.Range.small x y (-1)=true:=by
 unfold Builtin.Range.small;rw[rangeSize_down];simp only[Builtin.Range.rangeFitsLong,ak,a3,decide_eq_true_eq,aK,show ¬((-1:Int) > 0) by decide,if_false]
 lia
def fM (t:TA):TI:=λa H R=>t a H λv h=>∃i j:Int,v=[.int i,.int j,.int (-1)]/\(-(2 ^ 62)<=i/\i<2 ^ 62/\-(2 ^ 62)<=j/\j<2 ^ 62)/\R (Rm i (-1) (i-j).toNat) h
def DL {t:TA}(z:Gl X "range")(hm:X.mg "range"=none)(B:PA X [a,b,c] t)(v:starEach [a,b,c] X.env=(false,eval a X.env)::starEach [b,c] X.env)(w:(backTo o7 (starEach [b,c] X.env)).any (·.1)=false):
  PI X tg (.Call (.Name "range" p) [a,b,c] [] o7) (fM t):=by
 intro P s M H R I h;refine Call_ (Qc I z hm boot_range (PyProof.Rows.callWith_type1 (zQ (B o7 P s M H _ I h) λY S ⟨vs,N,J,f,Q⟩=>?_) v w));obtain⟨i,j,rfl,⟨Q,n,l,g⟩,q⟩:=Q;obtain⟨U,u,rfl,⟨t1,rfl⟩,r⟩:∃U u,Y=U::u/\RelV (.int i) U/\Vals [.int j,.int (-1)] u:=by
  cases f with|cons x y=>exact⟨_,_,rfl,x,y⟩
 obtain⟨L,K,rfl,⟨T,rfl⟩,⟨Z,rfl⟩⟩:=r.two;refine call_range_3 (by decide) ?_ (.inl (PyProof.noPylong_small (by lia)))
 have d:Inv X P M N { S with heap:=S.heap.push { cls:=.type "range",data:=.fields #[.int i t1,.int j T,.int (-1) Z] } }:=J.kept (t':=S.toks) λb o e=>af _ e
 refine wpAny_pyIter_range (IsRange.new ..) (small_down Q n l g) ?_;refine⟨_,[_],_,_,N,rfl,d.kept (t':=S.toks) λb o e=>af _ e,Ej _ i (-1) (i-j).toNat,?_,λb A=>?_,q⟩
 ·have D:i+((0:Nat):Int) * (-1)=i:=by simp
  have C:(((i-j).toNat:Nat):Int)-((0:Nat):Int)=Builtin.Range.rangeSize i j (-1):=by rw[rangeSize_down];lia
  show IsRangeIter _ _ (i+((0:Nat):Int) * (-1)) ((((i-j).toNat:Nat):Int)-((0:Nat):Int)) (-1);rw[D,C];exact aC _ rfl
 ·have E:=cw.mp A
  subst E;exact d.fpOk (ao _) (d.hok.fresh (ao _))
noncomputable def YJ (h:Int)(n:Nat):jn:=⟨λ_ i=>if i<n then some (some (.int (h-i))) else some none,n⟩
def fO {a:Int}:ZW K φ H (YJ a n) (Rm a (-1) n):=λi b d A l S=>by
 unfold YJ;dsimp only
 by_cases h:i<n
 ·rw[ai h]
  refine⟨λw e=>?_,λe=>by cases e⟩
  cases e;refine⟨h,λx f ⟨c,E⟩=>?_⟩;subst c;refine⟨.refl,S,?_⟩;rw[E];show V.int _=V.int _
  congr 1;lia
 ·rw[aj h]
  exact⟨λw e=>(by cases e),λ_=>Nat.le_of_not_lt h⟩
def Xs (m M:Ev):Ei:=λb A=>(m b A).bind λw d=>(M b d).bind λa c=>match w,a with|.int i,.int j=>if jl i&&jl j then .ok (YJ i (i-j).toNat) c else .bad|_,_=>.bad
def fP (t:TA):TE:=λa H Q=>t a H λv h=>∃j:Int,v=[.int j]/\∀p,h p=none->Q (.ref p) (upd h p (.rng 0 j))
def fQ {T:TA}(g:Gl X "range")(l:X.mg "range"=none)(e:PA X [a] T)(d:starEach [a] X.env=[(false,eval a X.env)]):PE X (.Call (.Name "range" p) [a] [] o7) (fP T):=by intro P s f H Q I h;refine Call_ (Qc I g l boot_range (PyProof.Rows.callWith_type1 (zQ (e o7 P s f H _ I h) λU S ⟨v,n,i,r,c⟩=>?_) d rfl));obtain⟨j,rfl,q⟩:=c;obtain⟨u,rfl,⟨t,rfl⟩⟩:=r.one;refine call_range_1 ⟨.ref _,_,i.laid (o:=.rng 0 j) (λb o E=>af _ E) (ao _) ?_,rfl,q _ (i.hok.fresh (ao _))⟩;exact⟨_,_,_,aC _ rfl⟩
noncomputable def JK (n:Nat):List V:=(List.range n).map λ(i:Nat)=>V.int i
def EG (B:X.calm=true):j9 X (.type "list") (λL H Q=>∃(r:Addr) (j:Int),L=[.ref r]/\H r=some (.rng 0 j)/\(-(2 ^ 62)<=j/\j<2 ^ 62)/\j.toNat<=sizeLine/\∀l,H l=none->Q (.ref l) (upd H l (.lst (JK j.toNat)))):=by
 intro P s Z H L us Q I r h;obtain⟨p,j,rfl,y,⟨E,D⟩,z,q⟩:=h;obtain⟨u,rfl,w⟩:=vals1 r;cases w;obtain⟨N,g,M,A⟩:=I.hok p _ y;have J:sizeLine=16777216:=sizeLine_eq;refine PySem.call_list_range (n:=j.toNat) (I.ok.hd B) (show IsRange s.heap p 0 j 1 N g M from A) (small_one (by lia) (by lia) E D) (by rw[rangeSize_one];split<;>lia) (by lia) λh' T K C U S ⟨Y,d⟩=>?_
 refine⟨.ref s.heap.objs.size,_,I.laid (t':=T) (o:=.lst (JK j.toNat)) U (ao _) ?_,rfl,q _ (I.hok.fresh (ao _))⟩;refine⟨by unfold JK;simpa using z,K.toList,C,?_,by simpa using S⟩
 have a:∀(l:bP)(k:Nat),(∀(i:Nat) v,l[i]? =some v->∃t,v=.int ((k+i:Nat):Int) t)->Vals ((List.range' k l.length).map λ(i:Nat)=>V.int i) l:=by
  intro l
  induction l with
  |nil=>intro k _;exact .nil|cons v l x=>
   intro k e;rw[bc,range'_succ,aQ];refine .cons ?_ (x (k+1) λi f a=>?_)
   ·obtain⟨t,rfl⟩:=e 0 v rfl
    exact⟨t,rfl⟩
   ·obtain⟨t,rfl⟩:=e (i+1) f (by simpa using a)
    exact⟨t,by congr 1;lia⟩
 have b:K.toList.length=j.toNat:=by simpa using Y
 have:=a K.toList 0 λi v c=>by
  obtain⟨t,rfl⟩:=d i v (by simpa using c)
  exact⟨t,by congr 1;lia⟩
 rw[b]at this;unfold JK;rw[range_eq_range'];exact this
def US (m:Ev):Ev:=λb A=>(m b A).bind λw a=>match w with|.int j=>if jl j&&decide (j.toNat<=zT) then .ok (.ref a.length) (a++[.lst ((List.range j.toNat).map λ(i:Nat)=>W.int i)]) else .bad|_=>.bad
def Wx (i:Nat)(m:Ev):Ex:=λa A=>match a[i]? with
 |some (some (.int x))=>(m a A).bind λw b=>match w with|.int y=>.ok (.nx (a.set i (some (.int (x+y))))) b|_=>.bad
 |_=>.bad
def fR:V->V->Hp->VK->Prop:=λo i H Q=>∃p x k v,o=.ref p/\i=.int k/\0<=k/\H p=some (.lst x)/\x[k.toNat]? =some v/\Q v H
def CQ:LG X fR:=by intro w s y H o i g j Q I ro d h;obtain⟨p,A,k,v,rfl,rfl,x,f,e,q⟩:=h;cases ro;obtain⟨t,rfl⟩:=d;obtain⟨a,r,P,z⟩:=I.list (qS.of f);obtain⟨u,b,c⟩:=r.get e;have B:=Jn;have l:=r.length;have n:k.toNat<a.length:=(cj.mp b).1;exact wpAny_getItem_list P.isList x (by lia) (by simpa using b) ⟨v,H,I,c,q⟩
def Xr (M e f:Ev):Ex:=λc A=>(M c A).bind λo g=>(e c g).bind λi d=>match o,i with
 |.ref n,.int k=>if 0<=k then(match (d[n]?:Option O) with
  |some (.lst ws)=>match ws[k.toNat]? with
   |some (.int x)=>(f c d).bind λy b=>match y with|.int y=>(gD (.ref n) (.int k) (.int (x+y)) b).bind λ_ a=>.ok (.nx c) a|_=>.bad
   |_=>.bad
  |_=>.bad) else .bad
 |_,_=>.bad
noncomputable def Xh (i j k:Nat):Tg:=λw a=>match w with|.tup [x,.tup [y,z]]=>some (((a.set i (some x)).set j (some y)).set k (some z))|_=>none
end
def jH (k:Bool)(h:Heap)(I a:Addr)(i:Nat):Prop:=if k=true then h.IsListIter I a i else h.IsTupleIter I a i
def yc (k:Bool)(h:Heap)(a:Addr)(i:Array Value):Prop:=if k=true then h.IsList a i else h.IsTuple a i
def kZ (k:Bool)(K:Frag)(H:Hp)(a:Addr)(x:List V):Prop:=if k=true then qS K H a x else qA K H a x
noncomputable def Jv (k:Bool):String:=if k then "list_iterator" else "tuple_iterator"
def jH.ob {k:Bool}{I:Addr}(x:jH k h I a i):∃o,h.get? I=some o/\o.cls=.type (Jv k)/\o.data=.fields #[.ref a,.int i 0]:=by cases k<;>exact x
def jH.mk {k:Bool}{I:Addr}(x:∃o,h.get? I=some o/\o.cls=.type (Jv k)/\o.data=.fields #[.ref a,.int i 0]):jH k h I a i:=by cases k<;>exact x
def jH.to {k:Bool}{I:Addr}(x:jH k h I a i)(e:∀o,h.get? I=some o->h'.get? I=some o):jH k h' I a i:=let ⟨o,H,r⟩:=x.ob;.mk ⟨o,e o H,r⟩
def yc.ob {k:Bool}{i:Array Value}(x:yc k h a i):∃o,h.get? a=some o/\o.cls=.type (if k then "list" else "tuple")/\∃n,o.data=.seq i n:=by cases k<;>exact x
def yc.to {k:Bool}{i:Array Value}(x:yc k h a i)(e:∀o,h.get? a=some o->h'.get? a=some o):yc k h' a i:=by
 cases k with|false=>exact let ⟨o,H,r⟩:=x.ob;⟨o,e o H,r⟩|true=>exact let ⟨o,H,r⟩:=x.ob;⟨o,e o H,r⟩
section
variable {prog:Program}{A:Around}{s:Shared}{k:Bool}{it:Addr}{items:Array Value}
def O7 (h:yc k s.heap a items)(H:Q (.ref s.heap.objs.size) { s with heap:=s.heap.push { cls:=.type (Jv k),data:=.fields #[.ref a,.int 0 0] } }):wpAny (model prog w) A (pyIter (.ref a)) Q E s:=by
 cases k with|true=>exact wpAny_pyIter_list h H|false=>exact wpAny_pyIter_tuple h H
def G3 {x:Value}(t:jH k s.heap it a i)(l:yc k s.heap a items)(f:items[i]? =some x)
  (g:∀h',jH k h' it a (i+1)->Heap.SameBut it s.heap h'->Q x { s with heap:=h' }):wpAny (model prog w) A (Builtin.SmallTypes.nextOf (.ref it)) Q E s:=by
 cases k with
 |true=>exact wpAny_nextOf_list_item t l f g|false=>
  have h:s.heap.IsTupleIter it a i:=t;obtain⟨o,b,e,H⟩:=id h;obtain⟨j,c,_,n,d⟩:s.heap.IsTuple a items:=l;unfold Builtin.SmallTypes.nextOf;refine cb (wpAny_callSpecial?_slot (name:=Str.ofString "__next__") h.typeIs F.slot_tuple_iterator_next (wpAny_call_entry F.slot_tuple_iterator_next h.typeIs F.entry_tuple_iterator_next ?_ (F.args_tuple_iterator_next_1 _)));show wpAny _ _ (field (.ref it) 0 >>= _) _ _ s;refine cb (wpAny_field b H (x:=.ref a) rfl ?_);show wpAny _ _ (if (Value.ref a==Value.none)=true then _ else _) _ _ s;rw[aj (show ¬((Value.ref a==Value.none)=true) from aH)]
  show wpAny _ _ (field (.ref it) 1 >>= _) _ _ s;refine cb (wpAny_field b H (x:=.int i 0) rfl ?_);show wpAny _ _ (seqItems? (.ref a) >>= _) _ _ s;refine cb (wpAny_seqItems c d ?_);simp only[aB,f];refine cb (wpAny_setField b H (by simp) (cg ⟨x,rfl,cg (g _ (.mk ?_) (Heap.SameBut.update ..))⟩))
  exact⟨_,Heap.get?_update_self _ b (Obj.isFreed_of_fields (Obj.data_mapFields H _)),(Obj.cls_mapFields ..).trans e,by rw[Obj.data_mapFields H];simp[rawInt]⟩
def Tt (d:A.handled=none)(t:jH k s.heap it a i)(l:yc k s.heap a items)(g:items[i]? =none)
  (j:∀h' e,Heap.ExtBut it s.heap h'->(∃o,h'.get? e=some o/\o.cls=.type "StopIteration")->E (.ref e) { s with heap:=h' }):wpAny (model prog w) A (Builtin.SmallTypes.nextOf (.ref it)) Q E s:=by
 cases k with
 |true=>exact wpAny_nextOf_list_end d t l g j|false=>
  have h:s.heap.IsTupleIter it a i:=t;obtain⟨p,H,n,b⟩:=id h;obtain⟨q,c,_,N,f⟩:s.heap.IsTuple a items:=l;unfold Builtin.SmallTypes.nextOf;refine cb (wpAny_callSpecial?_slot (name:=Str.ofString "__next__") h.typeIs F.slot_tuple_iterator_next (wpAny_call_entry F.slot_tuple_iterator_next h.typeIs F.entry_tuple_iterator_next ?_ (F.args_tuple_iterator_next_1 _)));show wpAny _ _ (field (.ref it) 0 >>= _) _ _ s;refine cb (wpAny_field H b (x:=.ref a) rfl ?_);show wpAny _ _ (if (Value.ref a==Value.none)=true then _ else _) _ _ s;rw[aj (show ¬((Value.ref a==Value.none)=true) from aH)]
  show wpAny _ _ (field (.ref it) 1 >>= _) _ _ s;refine cb (wpAny_field H b (x:=.int i 0) rfl ?_);show wpAny _ _ (seqItems? (.ref a) >>= _) _ _ s;refine cb (wpAny_seqItems c f ?_);simp only[aB,g];refine cb (wpAny_rule (cb (wpAny_setField H b (by simp) ?_)))
  show wpAny _ _ (newExc (.type "StopIteration") [] >>= _) _ _ _;refine cb ?_;simp only[newExc,newTuple];refine cb (wpAny_newObj_type ?_ (by size_fits))
  refine cb (m:=firstArgMember _ _) (wpAny_of_eq (a:=Value.none) (by first|rfl|(simp only[firstArgMember];rfl)) ?_);refine wpAny_newObj_type ?_ (by size_fits)
  simp only[raiseNew];refine cb (wpAny_handled ?_)
  first|rw[show A.in1.handled=none from d]|rw[d]
  refine cb (cg (wpAny_throw ?_));exact j _ _ (((Heap.SameBut.update ..).extBut.push _).push _) ⟨_,aC _ rfl,rfl⟩
def Ox (j:A.handled=none)(c:a≠it):Draws prog w A it [it,a] items.size (λi v=>items[i]? =some v) (λi h=>jH k h it a i/\yc k h a items) where
 live:=λ_ _ S=>let ⟨o,g,_⟩:=S.1.ob;⟨o,g⟩
 frame:=λ_ _ _ S d=>⟨S.1.to λo e=>d it (by simp) o e,S.2.to λo e=>d a (by simp) o e⟩
 item:=λi s Q E f S l=>G3 S.1 S.2 (x:=items[i]) (by simp[f]) λp b H=>l _ p s.toks (by simp[f]) ⟨b,S.2.to λo e=>H.extBut a o c e⟩ H
 done:=λs Q E S n=>Tt j S.1 S.2 (by simp) n
end
section
variable {s:Shared}
def _root_.L2.Inv.spun {T:Addr}(I:Inv X o6 σ H s)(k:∀b u,b∉fp->s.heap.get? b=some u->h'.get? b=some u)(j:∀b∈fp,wJ X o6 H b)(hT:s.heap.objs.size<=T)
  (new:qX X.prog X.w (upd H T o) h' T o):Inv X o6 σ (upd H T o) { s with heap:=h',toks:=t' }:=by
 have i:H T=none:=I.hok.fresh hT;have lt:∀b u,s.heap.get? b=some u->b≠T:=λb u e=>aO (aJ (aM e) hT);have N:∀b u,H b=some u->b∉fp:=λb u e z=>by rw[(j b z).1]at e;cases e
 refine I.step (g':=s.gens) (d':=s.drawn) (ch:=fp) (λb a=>let ⟨_,y,_,g,t,f⟩:=j b a;⟨g,y,t,f⟩) (λb o _ _ h e _=>k b o h e) (λb o _ _ h e _=>⟨o.slots,k b o h e⟩)
  (λb o _ e n=>by rw[qo (lt b o e)];exact n) (λb o h e=>⟨o,k b o h e⟩) (λb x e=>by rw[qo (kM e i)];exact e) (λb u x e=>by rw[qo (kM e i)];exact e)
  (λb ps e=>⟨#[],by rw[qo (kM e i),e];simp⟩) (λm l=>?_) (λb u e=>?_) I.bare
 ·obtain⟨o,E,p,d,r⟩:=l
  exact⟨o,E,p,k _ o (λz=>(j _ z).2.1 rfl) d,r⟩
 ·by_cases a:b=T
  ·subst a;rw[jR]at e;cases e;exact new
  ·rw[qo a]at e
   refine(I.hok b u e).stay (λc v h q=>k c v ?_ q) (λc q=>by rw[qo (kM q i)];exact q) λc x q=>by rw[qo (kM q i)];exact q
   rcases h with z|z
   ·rw[z];exact N b u e
   ·exact N c _ z
def _root_.L2.Inv.spun0 (I:Inv X o6 σ H s)(k:∀b u,b∉fp->s.heap.get? b=some u->h'.get? b=some u)(i:∀b∈fp,wJ X o6 H b):Inv X o6 σ H { s with heap:=h',toks:=t' }:=by
 have N:∀b u,H b=some u->b∉fp:=λb u e z=>by rw[(i b z).1]at e;cases e
 refine I.step (g':=s.gens) (d':=s.drawn) (ch:=fp) (λb d=>let ⟨_,t,_,g,l,f⟩:=i b d;⟨g,t,l,f⟩) (λb o _ _ h e _=>k b o h e) (λb o _ _ h e _=>⟨o.slots,k b o h e⟩)
  (λb o _ e n=>n) (λb o h e=>⟨o,k b o h e⟩) (λb x e=>e) (λb u x e=>e) (λb ps e=>⟨#[],by rw[e];simp⟩) (λm j=>?_) (λb u e=>?_) I.bare
 ·obtain⟨o,E,p,a,r⟩:=j
  exact⟨o,E,p,k _ o (λz=>(i _ z).2.1 rfl) a,r⟩
 ·refine(I.hok b u e).stay (λc v h q=>k c v ?_ q) (λc q=>q) λc x q=>q
  rcases h with z|z
  ·rw[z];exact N b u e
  ·exact N c _ z
def _root_.L2.Inv.sq {k:Bool}(I:Inv X o6 σ H s)(h:kZ k X.K H a xs):∃i:bP,Vals xs i/\yc k s.heap a i.toArray/\xs.length<=sizeLine:=by
 cases k with|true=>obtain⟨i,r,p,z⟩:=I.list h;exact⟨i,r,p.isList,z⟩|false=>obtain⟨i,r,p,z⟩:=I.tuple h;exact⟨i,r,(show s.heap.IsTuple a i.toArray from p),z⟩
def _root_.L2.Inv.sq_inj {k:Bool}(I:Inv X o6 σ H s)(h:kZ k X.K H a xs)(b:kZ k X.K H a ys):xs=ys:=by
 cases k with|true=>exact I.list_inj h b|false=>exact I.tuple_inj h b
end
def S7 (k:Bool)(K:Frag)(a:Addr):It:=
 ⟨λi H=>∃X x,kZ k K H a X/\X[i]? =some x,λi H x h=>∃p y,(∀X,kZ k K H a X->X[i]? =some y)/\H p=none/\x=.ref p/\h=upd H p (.tup [.int i,y]),λi H=>∃X,kZ k K H a X/\X.length=i⟩
def DY {K:Frag}(k:Bool)(a n it:Addr):Turn P w K (.Tuple oU kk oK) (S7 k K a) [n,it] n (λi h=>(∃old,IsEnum h n it i old)/\jH k h it a i/\n≠it) where
 mem:=by simp
 obj:=λi h st b f=>by
  obtain⟨⟨old,he⟩,g,_⟩:=st;rcases cm.mp f with rfl|f
  ·exact⟨_,he,λv z=>nomatch z⟩
  ·rw[cw.mp f]
   obtain⟨o,S,_,hd⟩:=g.ob;exact⟨o,S,λv z=>by rw[hd]at z;cases z⟩
 keep:=λi h h' ⟨⟨old,he⟩,g,ne⟩ kp=>⟨⟨old,kp n (by simp) _ he⟩,g.to λo r=>kp it (by simp) o r,ne⟩
 item:=by
  intro X hP hw hK hc i o6 s σ H E I hf st Y;subst hP hw hK;obtain⟨⟨old,he⟩,g,ne⟩:=st;obtain⟨xs,x,D,C⟩:=Y;obtain⟨d,J,t,hz⟩:=I.sq D;obtain⟨u,hu,ru⟩:=J.get C;have U:i<d.toArray.size:=by simpa using (cj.mp hu).1
  obtain⟨oa,j,hca,na,e⟩:=t.ob;have A:a≠it:=λz=>by obtain⟨oi,c,hci,p⟩:=g.ob;rw[<- z,j]at c;cases c;rw[p]at e;cases e
  have ane:n≠a:=λz=>by have B:s.heap.get? a=_:=z ▸ he;rw[j]at B;cases B;cases e
  refine wpAny_pyNext_enum_itemD (Ox (k:=k) (items:=d.toArray) (I.ok.hd hc) A) he ⟨g,t⟩ U ne (by simp[ne,ane]) λy h1 T M S Q hT hsz hk=>?_
  have ey:y=u:=by
   have:d[i]? =some y:=by simpa using M
   rw[hu]at this;exact(aE this).symm
  subst ey;refine⟨_,rfl,wpAny_letOwnedTupleGo_enum S λh2 Z l=>?_⟩;have L:n<s.heap.objs.size:=aM he;have hT2:h2.get? s.heap.objs.size=some { cls:=.type "tuple",data:=.seq #[.int i T,y] }:=l.extBut _ _ (ne_of_gt L) hT;refine⟨.ref s.heap.objs.size,upd H s.heap.objs.size (.tup [.int i,x]),?_,rfl,⟨s.heap.objs.size,x,λys M=>by rw[I.sq_inj M D];exact C,I.hok.fresh (ao _),rfl,rfl⟩,⟨⟨_,by simpa using Z⟩,?_,ne⟩,λb f=>?_⟩
  ·refine I.spun (fp:=[n,it]) (t':=T+1) (λb o f r=>?_) hf (ao _) ?_
   ·exact l.extBut _ _ (λz=>f (by simp[z])) (hk b o (λz=>f (by simp[z])) (λz=>f (by simp[z])) r)
   ·exact⟨by show 2<=sizeLine;decide,[.int i T,y],.cons ⟨T,rfl⟩ (.cons ru .nil),_,hT2,⟨rfl,rfl⟩,0,rfl⟩
  ·exact Q.1.to λo r=>l.extBut _ _ (λz=>ne z.symm) r
  ·have bn:b≠s.heap.objs.size:=λz=>by
    rcases cm.mp f with q|q
    ·exact absurd L (by rw[<- q,z];exact aS _)
    ·obtain⟨oi,c,_⟩:=g.ob
     exact absurd (aM c) (by rw[<- cw.mp q,z];exact aS _)
   show upd H s.heap.objs.size _ b=none;rw[qo bn];exact(hf b f).1
 done:=by
  intro X hP hw hK hc i o6 s σ H E I hf st Y;subst hP hw hK;obtain⟨⟨old,he⟩,g,ne⟩:=st;obtain⟨xs,D,C⟩:=Y;obtain⟨d,J,t,hz⟩:=I.sq D;have en':d.toArray.size=i:=by rw[aD,<- J.length];exact C
  obtain⟨oa,j,hca,na,e⟩:=t.ob;have A:a≠it:=λz=>by obtain⟨oi,c,hci,p⟩:=g.ob;rw[<- z,j]at c;cases c;rw[p]at e;cases e
  refine wpAny_pyNext_enum_endD (Ox (k:=k) (items:=d.toArray) (I.ok.hd hc) A) he ⟨by rw[en'];exact g,t⟩ λh1 N=>⟨rfl,?_⟩
  exact I.spun0 (fp:=[n,it]) (t':=s.toks) (λb o f r=>N b o (λz=>f (by simp[z])) r) hf
 self:=λ_ _ _ _ _ ⟨⟨_,he⟩,_⟩ h=>wpAny_pyIter_enum he h
open AutoSeq1 (wpAny_loadPart')
abbrev XU (h:Heap)(k:Bool)(a:Addr):Heap:=h.push { cls:=.type (Jv k),data:=.fields #[.ref a,.int 0 0] }
abbrev Ln (h:Heap)(k:Bool)(a:Addr):Heap:=(XU h k a).push { cls:=.type "enumerate",data:=.fields #[.none,.bool false,.ref h.objs.size,rawInt 0,.none,.none] }
set_option tactic.hygienic true in
def Eg (a:Addr)(i:Array Value)(n:Nat)(D:b8)(S:Array (Option Value)):
  Meets (Builtin.«enumerate.__new__» ⟨[.type "enumerate",.ref a],[]⟩) (λ_ R s=>s.heap.get? a=some { cls:=.type "tuple",dict:=D,data:=.seq i n,slots:=S }/\R (.ok (.ret (.ref (XU s.heap false a).objs.size))) { s with heap:=Ln s.heap false a }):=
 .of_wp λP w A R s h=>by
  obtain⟨p,g,d,t,o⟩:=s;obtain⟨H,h⟩:=h;have b:=sub_enumerate;have hT:Heap.IsTuple (Shared.heap ⟨p,g,d,t,o⟩) a i:=⟨_,H,rfl,n,rfl⟩
  wp_walk using wpAny_loadPart' H
  refine wpAny_stack_any λe=>cg ?_;split
  ·rename_i c _ _ _ _ _
   cases (c==Value.type "enumerate")<;>(wp_walk using wpAny_loadPart' H,wpAny_pyIter_tuple hT;exact⟨_,rfl,h⟩)
  ·wp_walk using wpAny_loadPart' H,wpAny_pyIter_tuple hT
   exact⟨_,rfl,h⟩
section
variable {prog:Program}{A:Around}{s:Shared}
def D1 {k:Bool}{i:Array Value}(l:yc k s.heap a i)
  (h:∀h',IsEnum h' (s.heap.objs.size+1) s.heap.objs.size 0 .none->jH k h' s.heap.objs.size a 0->(∀b o,s.heap.get? b=some o->h'.get? b=some o)->Q (.ref (s.heap.objs.size+1)) { s with heap:=h' }):
  wpAny (model prog w) A (call (.type "enumerate") [.ref a]) Q E s:=by
 cases k with
 |true=>exact call_enumerate_list l λh' g f _ e=>h h' g f e|false=>
  obtain⟨⟨c,q,D,S⟩,d,H,n,p⟩:=(show s.heap.IsTuple a i from l)
  replace H:c=.type "tuple":=H
  replace p:D=.seq i n:=p
  subst H p;refine callType_new F.called_enumerate (by decide) (F.typeCall_enumerate_1 _) (F.newCall_enumerate_1 _) (λobj=>F.args_object_init_2 obj _) F.entry_enumerate_new (Eg a i n q S) ⟨d,?_⟩
  have z:(XU s.heap false a).objs.size=s.heap.objs.size+1:=bp ..;have j:IsEnum (Ln s.heap false a) (XU s.heap false a).objs.size s.heap.objs.size 0 .none:=aC _ rfl;show _/\_;rw[z]at j ⊢;exact⟨⟨_,j,rfl⟩,h _ j (.mk ⟨_,af _ (aC _ rfl),rfl,rfl⟩) λb o x=>af _ (af _ x)⟩
end
section
variable {a b:Expr}{m:Ev}
def fS (K:Frag)(t:TA):TI:=λa H R=>t a H λv h=>∃p k x,v=[.ref p]/\kZ k K h p x/\R (S7 k K p) h
def boot_enumerate:bootBuiltins "enumerate"=some (.type "enumerate"):=by rfl
def boot_zip:bootBuiltins "zip"=some (.type "zip"):=by rfl
def Aw {t:TA}(l:Gl X "enumerate")(A:X.mg "enumerate"=none)(o:PA X [a] t)(g:starEach [a] X.env=[(false,eval a X.env)]):
  PI X (.Tuple oU kk oK) (.Call (.Name "enumerate" p) [a] [] o7) (fS X.K t):=by
 intro P s y H R I h;refine Call_ (Qc I l A boot_enumerate (PyProof.Rows.callWith_type1 (zQ (o o7 P s y H _ I h) λU S ⟨D,B,i,d,Q⟩=>?_) g rfl));obtain⟨p,k,C,rfl,j,q⟩:=Q;obtain⟨u,rfl,r⟩:=d.one;cases r;obtain⟨f,w,sq,x⟩:=i.sq j;refine D1 sq λJ e v E=>wpAny_pyIter_enum e ?_;refine⟨S.heap.objs.size+1,[S.heap.objs.size+1,S.heap.objs.size],_,_,B,rfl,i.kept (t':=S.toks) E,DY k p _ _,⟨⟨_,by simpa using e⟩,v,Nat.succ_ne_self _⟩,λb n=>?_,q⟩
 have c:S.heap.objs.size<=b:=by
  rcases cm.mp n with z|z
  ·rw[z];exact Nat.le_succ _
  ·rw[cw.mp z];exact ao _
 exact i.fpOk c (i.hok.fresh c)
noncomputable def atEnd (w:List W)(i:Nat)(f:W->W):Option (Option W):=match w[i]? with|some x=>some (some (f x))|none=>if w.length=i then some none else none
def yi (w:W)(n:Nat):jn:=⟨λA i=>match zK w A with|some a=>atEnd a i λx=>.tup [.int i,x]|none=>none,n⟩
noncomputable def QV (w:W):Bool:=match w with|.tup _=>false|_=>true
def Gy {K:Frag}{A:Hx}{w:W}{i:List W}(S:zL K φ A H)(q:RV K φ H w v)(e:zK w A=some i):∃p Y,v=.ref p/\kZ (QV w) K H p Y/\zE K φ H i Y:=by
 cases w with
 |tup u=>cases e;obtain⟨a,j,E,t,r⟩:=q;exact⟨a,j,E,t,r⟩|ref n=>
  obtain⟨a,E,f⟩:=q;unfold zK at e;dsimp only at e;cases c:A[n]? with
  |none=>rw[c]at e;cases e|some o=>
   rw[c]at e;obtain⟨d,b,r⟩:=S.ob n o c;rw[f]at b;cases b;cases o with|lst x=>cases e;obtain⟨y,g,h⟩:=r;exact⟨a,y,E,qS.of g,h⟩|ro x=>cases e;obtain⟨y,g,h⟩:=r;exact⟨a,y,E,g.sq,h⟩|dct x=>cases e|td _=>cases e|tr _=>cases e|tab _ _=>cases e
 |non=>cases e|bl _=>cases e|clo _ _ _=>cases e|xc _=>cases e|fn _=>cases e|int _=>cases e|str _=>cases e
def Uh {K:Frag}{a:bQ}{A:Hx}{h:Hp}{w:W}{b:List W}{p:Addr}(q:RV K φ H w (.ref p))(l:Qz K φ H a h)(S:zL K a A h)(E:zK w A=some b):∃y,kZ (QV w) K h p y/\zE K a h b y:=by obtain⟨P,Y,e,d,c⟩:=Gy S (RV.monoW l q) E;cases e;exact⟨Y,d,c⟩
def fT {K:Frag}{w:W}{p:Addr}(q:RV K φ H w (.ref p)):ZW K φ H (yi w n) (S7 (QV w) K p):=λi a g D L S=>by
 unfold yi;dsimp only;cases es:zK w D with
 |none=>exact⟨λ_ z=>(by cases z),λz=>(by cases z)⟩|some l=>
  dsimp only;obtain⟨Y,j,o⟩:=Uh q L S es;unfold atEnd;cases E:l[i]? with
  |none=>
   dsimp only
   by_cases h:l.length=i
   ·rw[ai h]
    exact⟨λ_ z=>(by cases z),λ_=>⟨Y,j,by rw[<- o.length];exact h⟩⟩
   ·rw[aj h]
    exact⟨λ_ z=>(by cases z),λz=>(by cases z)⟩
  |some x=>
   dsimp only;refine⟨λu z=>?_,λz=>(by cases z)⟩
   cases z;obtain⟨y,e,d⟩:=o.get E;refine⟨⟨Y,y,j,e⟩,λX I ⟨t,f,b,r,B,c⟩=>?_⟩;subst B c
   have:=b Y j
   rw[e]at this;cases this;obtain⟨C,a2,A⟩:=Jp S r (.cons (w:=.int i) (v:=.int i) rfl (.one d));exact⟨C,a2,A⟩
def Zo (m:Ev):Ei:=λb A=>(m b A).bind λw a=>match zK w a with|some c=>.ok (yi w c.length) a|none=>.bad
end
section
variable {prog:Program}{A:Around}{s:Shared}{z TI TO i1 i2 l1 l2:Addr}{n1 n2:Nat}{c1 c2:Bool}{xs ys:Array Value}{x y a b:Value}
def fU (D:ZipApart z TI TO i1 i2 l1 l2)(h:IsZip s.heap z TI TO .none)(I:IsPair s.heap TI (.ref i1) (.ref i2))(u:IsPair s.heap TO a b)
  (g1:jH c1 s.heap i1 l1 n1)(g2:jH c2 s.heap i2 l2 n2)(s1:yc c1 s.heap l1 xs)(s2:yc c2 s.heap l2 ys)(U:xs[n1]? =some x)(P:ys[n2]? =some y)
  (hQ:∀h',IsZip h' z TI TO (rawInt s.heap.objs.size)->IsPair h' TI (.ref i1) (.ref i2)->IsPair h' TO x y->jH c1 h' i1 l1 (n1+1)->jH c2 h' i2 l2 (n2+1)->IsPair h' s.heap.objs.size x y->
   (∀c o,c≠z->c≠TO->c≠i1->c≠i2->s.heap.get? c=some o->h'.get? c=some o)->Q (.ref s.heap.objs.size) { s with heap:=h' }):
  wpAny (model prog w) A (Builtin.«zip.__next__» ⟨[.ref z],[]⟩) (λfin s'=>∃v,fin=.done (.ret v)/\Q v s') E s:=by
 show wpAny _ _ (field (.ref z) 2 >>= _) _ _ _;refine cb (wpAny_field h rfl (x:=.bool false) rfl ?_);show wpAny _ _ (field (.ref z) 3 >>= _) _ _ _;refine cb (wpAny_field h rfl (x:=.ref TI) rfl (cb (wpAny_seqItems I rfl ?_)));show wpAny _ _ (Builtin.SmallTypes.ownedTupleIsFree (.ref z) >>= _) _ _ _;refine cb ?_;unfold Builtin.SmallTypes.ownedTupleIsFree;refine cb (wpAny_field h rfl (x:=.none) rfl (cg ?_));simp only[if_true];refine cb (wpAny_rule (cb (wpAny_field h rfl (x:=.ref TO) rfl ?_)));refine cb (wpAny_setField_rec h (by simp) λha p sa=>?_);replace p:IsZip ha z TI TO .ellipsis:=p
 refine cb ?_;simp only[List.zipIdx_cons,List.zipIdx_nil,forIn_cons,forIn_nil];refine cb (cb (wpAny_onRaise ?_));show wpAny _ _ (Builtin.SmallTypes.nextOf (.ref i1) >>= _) _ _ _;refine cb (G3 (g1.to λo e=>sa.extBut _ _ D.i1z e) (s1.to λo e=>sa.extBut _ _ D.l1z e) U λY gb j=>cg ?_);have tb:IsPair Y TO a b:=j.extBut _ _ D.TOi1 (sa.extBut _ _ D.TOz u);refine cb (wpAny_seqItems tb rfl (cb (wpAny_updateSeq_pair tb λN T sc=>cb (wpAny_letGo (cg ?_)))));replace T:IsPair N TO x b:=T;refine cb (cb (wpAny_onRaise ?_));show wpAny _ _ (Builtin.SmallTypes.nextOf (.ref i2) >>= _) _ _ _;have up:∀c o,c≠z->c≠i1->c≠TO->s.heap.get? c=some o->N.get? c=some o:=λc o f d g e=>sc.extBut _ _ g (j.extBut _ _ d (sa.extBut _ _ f e));refine cb (G3 (g2.to λo e=>up _ o D.i2z D.i12.symm D.TOi2.symm e) (s2.to λo e=>up _ o D.l2z D.l2i1 D.l2TO e) P λhd gd sd=>cg ?_);have td:IsPair hd TO x b:=sd.extBut _ _ D.TOi2 T;refine cb (wpAny_seqItems td rfl (cb (wpAny_updateSeq_pair td λhe t S=>cb (wpAny_letGo (cg (cg ?_))))));replace t:IsPair he TO x y:=t;refine cb (wpAny_seqItems t rfl (cb (wpAny_newTuple ?_)));have H:he.objs.size=s.heap.objs.size:=by rw[S.1,sd.1,sc.1,j.1,sa.1]
 have C:IsZip he z TI TO .ellipsis:=S.extBut _ _ D.TOz.symm (sd.extBut _ _ D.i2z.symm (sc.extBut _ _ D.TOz.symm (j.extBut _ _ D.i1z.symm p)));have M:∀c o,c≠z->c≠TO->c≠i1->c≠i2->s.heap.get? c=some o->he.get? c=some o:=λc o f d g r e=>S.extBut _ _ d (sd.extBut _ _ r (up c o f g d e));have ge1:jH c1 he i1 l1 (n1+1):=((gb.to λo e=>sc.extBut _ _ D.TOi1.symm e).to λo e=>sd.extBut _ _ D.i12 e).to λo e=>S.extBut _ _ D.TOi1.symm e;have B:jH c2 he i2 l2 (n2+1):=gd.to λo e=>S.extBut _ _ D.TOi2.symm e;have Z:z<he.objs.size:=aM C;show wpAny _ _ (Builtin.SmallTypes.ownedTupleHandOut (.ref z) (.ref he.objs.size) >>= _) _ _ _;refine cb ?_;unfold Builtin.SmallTypes.ownedTupleHandOut;have zf:IsZip (he.push { cls:=.type "tuple",data:=.seq #[x,y] }) z TI TO .ellipsis:=af _ C;refine cb (wpAny_setField_rec zf (by simp) λX n L=>?_);replace n:IsZip X z TI TO (rawInt he.objs.size):=n
 refine wpAny_setField_rec n (by simp) λl i K=>?_;replace i:IsZip l z TI TO (rawInt he.objs.size):=i
 have fin:∀c o,c≠z->he.get? c=some o->l.get? c=some o:=λc o q e=>K.extBut _ _ q (L.extBut _ _ q (af _ e));have J:IsPair l he.objs.size x y:=K.extBut _ _ (ne_of_gt Z) (L.extBut _ _ (ne_of_gt Z) (aC _ rfl));rw[H]at i J;refine cg ⟨_,rfl,?_⟩;show Q (.ref he.objs.size) _;rw[H];exact hQ l i (fin _ _ D.TIz (M _ _ D.TIz D.TITO D.TIi1 D.TIi2 I)) (fin _ _ D.TOz t) (ge1.to λo e=>fin _ o D.i1z e) (B.to λo e=>fin _ o D.i2z e) J λc o f d g r e=>fin c o f (M c o f d g r e)
def fV {Q:Fin->Shared->Prop}(J:A.handled=none)(D:ZipApart z TI TO i1 i2 l1 l2)(i:IsZip s.heap z TI TO .none)(I:IsPair s.heap TI (.ref i1) (.ref i2))(v:IsPair s.heap TO a b)
  (g1:jH c1 s.heap i1 l1 n1)(g2:jH c2 s.heap i2 l2 n2)(s1:yc c1 s.heap l1 xs)(s2:yc c2 s.heap l2 ys)(j:xs[n1]? =none∨ys[n2]? =none)
  (K:∀h' e,(∀c o,c≠z->c≠TO->c≠i1->c≠i2->s.heap.get? c=some o->h'.get? c=some o)->(∃o,h'.get? e=some o/\o.cls=.type "StopIteration")->E (.ref e) { s with heap:=h' }):
  wpAny (model prog w) A (Builtin.«zip.__next__» ⟨[.ref z],[]⟩) Q E s:=by
 show wpAny _ _ (field (.ref z) 2 >>= _) _ _ _;refine cb (wpAny_field i rfl (x:=.bool false) rfl ?_);show wpAny _ _ (field (.ref z) 3 >>= _) _ _ _;refine cb (wpAny_field i rfl (x:=.ref TI) rfl (cb (wpAny_seqItems I rfl ?_)));show wpAny _ _ (Builtin.SmallTypes.ownedTupleIsFree (.ref z) >>= _) _ _ _;refine cb ?_;unfold Builtin.SmallTypes.ownedTupleIsFree;refine cb (wpAny_field i rfl (x:=.none) rfl (cg ?_));simp only[if_true];refine cb (wpAny_rule (cb (wpAny_field i rfl (x:=.ref TO) rfl ?_)));refine cb (wpAny_setField_rec i (by simp) λu Z U=>?_);replace Z:IsZip u z TI TO .ellipsis:=Z
 refine cb ?_;simp only[List.zipIdx_cons,List.zipIdx_nil,forIn_cons,forIn_nil];refine cb (cb (wpAny_onRaise ?_));show wpAny _ _ (Builtin.SmallTypes.nextOf (.ref i1) >>= _) _ _ _;have ga:=g1.to (h':=u) λo e=>U.extBut _ _ D.i1z e;have Y:=s1.to (h':=u) λo e=>U.extBut _ _ D.l1z e;cases p:xs[n1]? with
 |none=>
  refine cb (Tt J ga Y p λt e S X=>?_);obtain⟨n,h,H⟩:=X;have B:IsZip t z TI TO .ellipsis:=S _ _ D.i1z.symm Z;have f:e≠z:=λq=>by subst q;rw[B]at h;cases h;simp at H
  exact wpAny_setField_rec B (by simp) λr _ P=>K r e (λc o d _ g _ q=>P.extBut _ _ d (S _ _ g (U.extBut _ _ d q))) ⟨n,P.extBut _ _ f h,H⟩
 |some x=>
  have M:ys[n2]? =none:=by
   rcases j with q|q
   ·rw[p]at q;cases q
   ·exact q
  refine cb (G3 ga Y p λt N S=>cg ?_);have tb:IsPair t TO a b:=S.extBut _ _ D.TOi1 (U.extBut _ _ D.TOz v);refine cb (wpAny_seqItems tb rfl (cb (wpAny_updateSeq_pair tb λr T P=>cb (wpAny_letGo (cg ?_)))));refine cb (cb (wpAny_onRaise ?_));show wpAny _ _ (Builtin.SmallTypes.nextOf (.ref i2) >>= _) _ _ _;have up:∀c o,c≠z->c≠i1->c≠TO->s.heap.get? c=some o->r.get? c=some o:=λc o d l g e=>P.extBut _ _ g (S.extBut _ _ l (U.extBut _ _ d e));refine cb (Tt J (g2.to λo e=>up _ o D.i2z D.i12.symm D.TOi2.symm e) (s2.to λo e=>up _ o D.l2z D.l2i1 D.l2TO e) M λhd e sd X=>?_);obtain⟨n,h,H⟩:=X;have y:IsZip hd z TI TO .ellipsis:=sd _ _ D.i2z.symm (P.extBut _ _ D.TOz.symm (S.extBut _ _ D.i1z.symm Z));have f:e≠z:=λq=>by subst q;rw[y]at h;cases h;simp at H
  exact wpAny_setField_rec y (by simp) λhf _ C=>K hf e (λc o d l g L q=>C.extBut _ _ d (sd _ _ L (up c o d g l q))) ⟨n,C.extBut _ _ f h,H⟩
def fW {Q:Option Value->Shared->Prop}(D:ZipApart z TI TO i1 i2 l1 l2)(d:IsZip s.heap z TI TO .none)(H:IsPair s.heap TI (.ref i1) (.ref i2))(h:IsPair s.heap TO a b)
  (v:jH c1 s.heap i1 l1 n1)(u:jH c2 s.heap i2 l2 n2)(t:yc c1 s.heap l1 xs)(S:yc c2 s.heap l2 ys)(p:xs[n1]? =some x)(n:ys[n2]? =some y)
  (r:∀h',IsZip h' z TI TO (rawInt s.heap.objs.size)->IsPair h' TI (.ref i1) (.ref i2)->IsPair h' TO x y->jH c1 h' i1 l1 (n1+1)->jH c2 h' i2 l2 (n2+1)->IsPair h' s.heap.objs.size x y->
   (∀c o,c≠z->c≠TO->c≠i1->c≠i2->s.heap.get? c=some o->h'.get? c=some o)->Q (some (.ref s.heap.objs.size)) { s with heap:=h' }):wpAny (model prog w) A (pyNext (.ref z)) Q E s:=by
 have hT:s.TypeIs (.ref z) "zip":=⟨_,d,rfl⟩;unfold pyNext;exact cb (wpAny_attempt (wpAny_callSpecial?_slot (name:=Str.ofString "__next__") hT F.slot_zip_next (wpAny_call_entry F.slot_zip_next hT F.entry_zip_next
  (fU D d H h v u t S p n λh' l j i g f e q=>cg (r h' l j i g f e q)) (F.args_zip_next_1 _))))
def Ab {Q:Option Value->Shared->Prop}(i:A.handled=none)(D:ZipApart z TI TO i1 i2 l1 l2)(d:IsZip s.heap z TI TO .none)(I:IsPair s.heap TI (.ref i1) (.ref i2))(H:IsPair s.heap TO a b)
  (r:jH c1 s.heap i1 l1 n1)(q:jH c2 s.heap i2 l2 n2)(n:yc c1 s.heap l1 xs)(S:yc c2 s.heap l2 ys)(h:xs[n1]? =none∨ys[n2]? =none)
  (l:∀h',(∀c o,c≠z->c≠TO->c≠i1->c≠i2->s.heap.get? c=some o->h'.get? c=some o)->Q none { s with heap:=h' }):wpAny (model prog w) A (pyNext (.ref z)) Q E s:=by
 have hT:s.TypeIs (.ref z) "zip":=⟨_,d,rfl⟩;unfold pyNext;refine cb (wpAny_attempt (wpAny_callSpecial?_slot (name:=Str.ofString "__next__") hT F.slot_zip_next (wpAny_call_entry F.slot_zip_next hT F.entry_zip_next (fV i D d I H r q n S h λh' e g p=>?_) (F.args_zip_next_1 _))));obtain⟨o,f,j⟩:=p;exact cb (wpAny_isInstance (T := "StopIteration") (b:=true) ⟨o,f,j⟩ isSubtype_stop (cg (l _ g)))
end
abbrev XH (h:Heap)(c1:Bool)(l:Addr):Heap:=h.push { cls:=.type (Jv c1),data:=.fields #[.ref l,.int 0 0] }
abbrev XF (h:Heap)(c1 c2:Bool)(L l:Addr):Heap:=(XH h c1 L).push { cls:=.type (Jv c2),data:=.fields #[.ref l,.int 0 0] }
abbrev X2 (h:Heap)(c1 c2:Bool)(l L:Addr):Heap:=(XF h c1 c2 l L).push { cls:=.type "tuple",data:=.seq #[.ref h.objs.size,.ref (XH h c1 l).objs.size] }
abbrev XM (h:Heap)(c1 c2:Bool)(L l:Addr):Heap:=(X2 h c1 c2 L l).push { cls:=.type "tuple",data:=.seq #[.none,.none] }
abbrev YQ (h:Heap)(c1 c2:Bool)(L l:Addr):Heap:=(XM h c1 c2 L l).push { cls:=.type "zip",data:=.fields #[.none,.bool false,.bool false,.ref (XF h c1 c2 L l).objs.size,.ref (X2 h c1 c2 L l).objs.size] }
def D7 (c1 c2:Bool)(l L:Addr)(x y:Array Value):
  Meets (Builtin.«zip.__new__» ⟨[.type "zip",.ref l,.ref L],[]⟩) (λ_ R s=>yc c1 s.heap l x/\yc c2 s.heap L y/\R (.ok (.ret (.ref (XM s.heap c1 c2 l L).objs.size))) { s with heap:=YQ s.heap c1 c2 l L }):=
 .of_wp λP w A R s h=>by
  obtain⟨p,g,d,t,a⟩:=s;obtain⟨Q,q,h⟩:=h;have H:=sub_zip;have b:yc c1 (Shared.heap ⟨p,g,d,t,a⟩) l x:=Q;have K:yc c2 (Shared.heap ⟨p.push { cls:=.type (Jv c1),data:=.fields #[.ref l,.int 0 0] },g,d,t,a⟩) L y:=q.to λo e=>af _ e
  wp_walk using O7 b,O7 K
  exact⟨_,rfl,h⟩
section
variable {prog:Program}{A:Around}{s:Shared}{c1 c2:Bool}{l1 l2:Addr}{xs ys:Array Value}
def CN (g:yc c1 s.heap l1 xs)(S:yc c2 s.heap l2 ys)
  (h:∀h' n,n=s.heap.objs.size->IsZip h' (n+4) (n+2) (n+3) .none->IsPair h' (n+2) (.ref n) (.ref (n+1))->IsPair h' (n+3) .none .none->jH c1 h' n l1 0->jH c2 h' (n+1) l2 0->
   (∀c o,s.heap.get? c=some o->h'.get? c=some o)->Q (.ref (n+4)) { s with heap:=h' }):wpAny (model prog w) A (call (.type "zip") [.ref l1,.ref l2]) Q E s:=by
 refine callType_new F.called_zip (by decide) (F.typeCall_zip_2 _ _) (F.newCall_zip_2 _ _) (λobj=>F.args_object_init_3 obj _ _) F.entry_zip_new (D7 c1 c2 l1 l2 xs ys) ⟨g,S,?_⟩
 have a:(XH s.heap c1 l1).objs.size=s.heap.objs.size+1:=bp ..;have Z:(XF s.heap c1 c2 l1 l2).objs.size=s.heap.objs.size+2:=by rw[bp,a]
 have z:(X2 s.heap c1 c2 l1 l2).objs.size=s.heap.objs.size+3:=by rw[bp,Z]
 have b:(XM s.heap c1 c2 l1 l2).objs.size=s.heap.objs.size+4:=by rw[bp,z]
 have e:(YQ s.heap c1 c2 l1 l2).get? (XM s.heap c1 c2 l1 l2).objs.size=some _:=aC _ rfl;have f:(YQ s.heap c1 c2 l1 l2).get? (X2 s.heap c1 c2 l1 l2).objs.size=some _:=af _ (aC _ rfl);have y:(YQ s.heap c1 c2 l1 l2).get? (XF s.heap c1 c2 l1 l2).objs.size=some _:=af _ (af _ (aC _ rfl));have Y:(YQ s.heap c1 c2 l1 l2).get? (XH s.heap c1 l1).objs.size=some _:=af _ (af _ (af _ (aC _ rfl)));have d:(YQ s.heap c1 c2 l1 l2).get? s.heap.objs.size=some _:=af _ (af _ (af _ (af _ (aC _ rfl))));show _/\_;rw[Z,z,b]at e;rw[a,Z]at y;rw[z]at f;rw[a]at Y;rw[b];exact⟨⟨_,e,rfl⟩,h _ _ rfl e y f (.mk ⟨_,d,rfl,rfl⟩) (.mk ⟨_,Y,rfl,rfl⟩) λc o q=>
  af _ (af _ (af _ (af _ (af _ q))))⟩
end
def Rp (c1 c2:Bool)(K:Frag)(p q:Addr):It:=
 ⟨λi H=>∃X Y x y,kZ c1 K H p X/\kZ c2 K H q Y/\X[i]? =some x/\Y[i]? =some y,
  λi H v h=>∃t x y,(∀X,kZ c1 K H p X->X[i]? =some x)/\(∀Y,kZ c2 K H q Y->Y[i]? =some y)/\H t=none/\v=.ref t/\h=upd H t (.tup [x,y]),
  λi H=>∃X Y,kZ c1 K H p X/\kZ c2 K H q Y/\(X[i]? =none∨Y[i]? =none)⟩
def Be {K:Frag}(c1 c2:Bool)(p q z TI TO t r:Addr)(D:ZipApart z TI TO t r p q):
  Turn P w K (.Tuple oU kk oK) (Rp c1 c2 K p q) [z,TI,TO,t,r] z (λi h=>IsZip h z TI TO .none/\IsPair h TI (.ref t) (.ref r)/\(∃a b,IsPair h TO a b)/\jH c1 h t p i/\jH c2 h r q i) where
 mem:=by simp
 obj:=λi h st b d=>by
  obtain⟨j,g,⟨N,M,f⟩,g1,g2⟩:=st;simp only[mem_cons,bE,or_false]at d;rcases d with rfl|rfl|rfl|rfl|rfl
  ·exact⟨_,j,λv e=>nomatch e⟩
  ·exact⟨_,g,λv e=>nomatch e⟩
  ·exact⟨_,f,λv e=>nomatch e⟩
  ·obtain⟨o,B,_,hd⟩:=g1.ob;exact⟨o,B,λv e=>by rw[hd]at e;cases e⟩
  ·obtain⟨o,B,_,hd⟩:=g2.ob;exact⟨o,B,λv e=>by rw[hd]at e;cases e⟩
 keep:=λi h h' ⟨j,g,⟨N,M,f⟩,g1,g2⟩ k=>⟨k z (by simp) _ j,k TI (by simp) _ g,⟨N,M,k TO (by simp) _ f⟩,g1.to λo e=>k t (by simp) o e,g2.to λo e=>k r (by simp) o e⟩
 item:=by
  intro X hP hw hK hc i o6 s σ H E I hf st hg;subst hP hw hK;obtain⟨j,g,⟨N,M,f⟩,g1,g2⟩:=st;obtain⟨xs,ys,x,y,h1,h2,ex,ey⟩:=hg;obtain⟨n,r1,u,_⟩:=I.sq h1;obtain⟨l,Z,S,_⟩:=I.sq h2;obtain⟨Q,eu1,Y⟩:=r1.get ex;obtain⟨U,eu2,T⟩:=Z.get ey;refine fW D j g f g1 g2 u S (x:=Q) (y:=U) (by simpa using eu1) (by simpa using eu2) λhh z1 z2 z3 z4 z5 z6 kp=>?_
  refine⟨_,rfl,wpAny_letOwnedTupleGo_zip z1 λhk zk J=>?_⟩;have lt:∀{c o},s.heap.get? c=some o->c≠s.heap.objs.size:=λe=>aO (aM e);have T2:IsPair hk s.heap.objs.size Q U:=J.extBut _ _ (lt j).symm z6;have fre:∀b∈[z,TI,TO,t,r],b≠s.heap.objs.size:=λb d=>by
   simp only[mem_cons,bE,or_false]at d;rcases d with rfl|rfl|rfl|rfl|rfl
   ·exact lt j
   ·exact lt g
   ·exact lt f
   ·obtain⟨o,B,_⟩:=g1.ob;exact lt B
   ·obtain⟨o,B,_⟩:=g2.ob;exact lt B
  refine⟨.ref s.heap.objs.size,upd H s.heap.objs.size (.tup [x,y]),?_,rfl,⟨s.heap.objs.size,x,y,λzs A=>by rw[I.sq_inj A h1];exact ex,λzs A=>by rw[I.sq_inj A h2];exact ey,I.hok.fresh (ao _),rfl,rfl⟩,
   ⟨zk,J.extBut _ _ D.TIz z2,⟨_,_,J.extBut _ _ D.TOz z3⟩,z4.to λo e=>J.extBut _ _ D.i1z e,z5.to λo e=>J.extBut _ _ D.i2z e⟩,λb d=>?_⟩
  ·refine I.spun (fp:=[z,TI,TO,t,r]) (t':=s.toks) (λb o d eo=>?_) hf (ao _) ?_
   ·exact J.extBut _ _ (λe=>d (by simp[e])) (kp b o (λe=>d (by simp[e])) (λe=>d (by simp[e])) (λe=>d (by simp[e])) (λe=>d (by simp[e])) eo)
   ·exact⟨by show 2<=sizeLine;decide,[Q,U],.cons Y (.cons T .nil),_,T2,⟨rfl,rfl⟩,0,rfl⟩
  ·show upd H s.heap.objs.size _ b=none
   rw[qo (fre b d)];exact(hf b d).1
 done:=by
  intro X hP hw hK hc i o6 s σ H E I hf st hg;subst hP hw hK;obtain⟨j,g,⟨N,M,f⟩,g1,g2⟩:=st;obtain⟨xs,ys,h1,h2,L⟩:=hg;obtain⟨n,r1,u,_⟩:=I.sq h1;obtain⟨l,Z,S,_⟩:=I.sq h2;have C:n.toArray[i]? =none∨l.toArray[i]? =none:=by
   rcases L with e|e
   ·exact .inl (by simpa using r1.none_of e)
   ·exact .inr (by simpa using Z.none_of e)
  exact Ab (I.ok.hd hc) D j g f g1 g2 u S C λhh kp=>⟨rfl,I.spun0 (fp:=[z,TI,TO,t,r]) (t':=s.toks) (λb o d eo=>kp b o (λe=>d (by simp[e])) (λe=>d (by simp[e])) (λe=>d (by simp[e])) (λe=>d (by simp[e])) eo) hf⟩
 self:=λ_ _ _ _ _ st h=>wpAny_pyIter_zip st.1 h
section
variable {a b:Expr}{m:Ev}
def fX (K:Frag)(t:TA):TI:=λa H R=>t a H λv h=>∃p q c1 c2 x y,v=[.ref p,.ref q]/\kZ c1 K h p x/\kZ c2 K h q y/\R (Rp c1 c2 K p q) h
def fY {T:TA}(U:Gl X "zip")(hm:X.mg "zip"=none)(Y:PA X [a,b] T)(N:jb a [b] X)(P:kX o7 [b] X):
  PI X (.Tuple oU kk oK) (.Call (.Name "zip" p) [a,b] [] o7) (fX X.K T):=by
 intro o6 s σ H R I h;refine Call_ (Qc I U hm boot_zip (PyProof.Rows.callWith_type1 (zQ (Y o7 o6 s σ H _ I h) λus s1 ⟨vs,H1,g,M,Q⟩=>?_) N P));obtain⟨p,q,c1,c2,xs,ys,rfl,h1,h2,hR⟩:=Q;obtain⟨u1,u2,rfl,o,r⟩:=M.two;cases o;cases r;obtain⟨w,J,d,_⟩:=g.sq h1;obtain⟨v,C,S,_⟩:=g.sq h2;obtain⟨op,u,_⟩:=d.ob;obtain⟨oq,t,_⟩:=S.ob;have L:p<s1.heap.objs.size:=aM u;have l:q<s1.heap.objs.size:=aM t;refine CN d S λh' n E z B A y Z kp=>wpAny_pyIter_zip z ?_;rw[<- E]at L l;have ne1:∀(i j:Nat),i≠j->n+i≠n+j:=λi j h e=>h (Nat.add_left_cancel e);have ne2:∀(c:Nat)(i:Nat),c<n->c≠n+i:=λc i h e=>absurd h (by rw[e];exact Nat.not_lt.mpr (le_add_right n i))
 have D:ZipApart (n+4) (n+2) (n+3) (n+0) (n+1) p q:=⟨ne1 2 4 (by decide),ne1 3 4 (by decide),ne1 0 4 (by decide),ne1 1 4 (by decide),ne1 2 3 (by decide),ne1 2 0 (by decide),ne1 2 1 (by decide),ne1 3 0 (by decide),ne1 3 1 (by decide),ne1 0 1 (by decide),
  ne2 p 4 L,ne2 p 3 L,ne2 p 0 L,ne2 p 1 L,ne2 q 4 l,ne2 q 3 l,ne2 q 0 l,ne2 q 1 l⟩
 refine⟨n+4,[n+4,n+2,n+3,n,n+1],_,_,H1,rfl,g.kept (t':=s1.toks) kp,Be c1 c2 p q _ _ _ _ _ D,⟨z,B,⟨_,_,A⟩,y,Z⟩,λc x=>?_,hR⟩;have f:s1.heap.objs.size<=c:=by
  rw[<- E];simp only[mem_cons,bE,or_false]at x;rcases x with rfl|rfl|rfl|rfl|rfl
  ·exact le_add_right _ _
  ·exact le_add_right _ _
  ·exact le_add_right _ _
  ·exact ao _
  ·exact le_add_right _ _
 exact g.fpOk f (g.hok.fresh f)
noncomputable def zip2:Option W->Option W->Option W
 |some x,some y=>some (.tup [x,y])|_,_=>none
def wq (w a:W)(n:Nat):jn:=⟨λA i=>match zK w A,zK a A with|some u,some v=>some (zip2 u[i]? v[i]?)|_,_=>none,n⟩
def fZ {K:Frag}{w a:W}{p P:Addr}(q:RV K φ H w (.ref p))(Q:RV K φ H a (.ref P)):ZW K φ H (wq w a n) (Rp (QV w) (QV a) K p P):=λi b C A' M S=>by
 unfold wq;dsimp only;cases es:zK w A' with
 |none=>exact⟨λ_ z=>(by cases z),λz=>(by cases z)⟩|some U=>
  cases E:zK a A' with
  |none=>exact⟨λ_ z=>(by cases z),λz=>(by cases z)⟩|some vs=>
   dsimp only;obtain⟨J,L,N⟩:=Uh q M S es;obtain⟨Y,h,c⟩:=Uh Q M S E;have non:∀{U:List W}{J:List V},zE K b C U J->U[i]? =none->J[i]? =none:=λr e=>by rw[List.getElem?_eq_none_iff]at e ⊢;rw[<- r.length];exact e
   cases g:U[i]? with
   |none=>exact⟨λ_ z=>(by cases z),λ_=>⟨J,Y,L,h,.inl (non N g)⟩⟩|some x=>
    cases d:vs[i]? with
    |none=>exact⟨λ_ z=>(by cases z),λ_=>⟨J,Y,L,h,.inr (non c d)⟩⟩|some y=>
     refine⟨λu z=>?_,λz=>(by cases z)⟩
     cases z;obtain⟨j,f1,f2⟩:=N.get g;obtain⟨v,f,f4⟩:=c.get d;refine⟨⟨J,Y,j,v,L,h,f1,f⟩,λX H1 ⟨t,I,D,o,l,ht,ex,A⟩=>?_⟩;subst ex A;have Z:=o J L;have T:=l Y h;rw[f1]at Z;cases Z;rw[f]at T;cases T;obtain⟨a1,a2,B⟩:=Jp S ht (.cons f2 (.one f4));exact⟨a1,a2,B⟩
def gC (m M:Ev):Ei:=λc A=>(m c A).bind λw d=>(M c d).bind λa b=>match zK w b,zK a b with|some u,some _=>.ok (wq w a u.length) b|_,_=>.bad
variable {K:Frag}{c:Expr}
noncomputable def LM:Ev:=λ_ A=>.ok (.ref A.length) (A++[.dct []])
noncomputable def X3:W->Option Key
 |.int i=>some (.inl i)|_=>none
noncomputable def yN (k:Key):List (Key×W)->Option W
 |[]=>none|(j,w)::r=>if j=k then some w else yN k r
theorem Uj (k:Key):∀{g:List (Key×W)}{u:List (Key×V)},u.map (·.1)=g.map (·.1)->zE K φ H (g.map (·.2)) (u.map (·.2))->
  (∀w,yN k g=some w->∃v,kJ u k=some v/\RV K φ H w v)/\(yN k g=none->kJ u k=none)
 |[],[],_,_=>⟨λw h=>(by cases h),λ_=>rfl⟩|[],_::_,h,_=>by simp at h|_::_,[],h,_=>by simp at h|(j,w)::g,(J,v)::u,h,r=>by
  simp only[aQ,List.cons.injEq]at h;obtain⟨d,f,e,q,o⟩:=r;simp only[aQ,List.cons.injEq]at e;obtain⟨rfl,rfl⟩:=e;have i:=Uj k h.2 o;have b:J=j:=h.1;subst b
  by_cases a:J=k
  ·refine⟨λc l=>⟨v,GC a,?_⟩,λn=>?_⟩
   ·unfold yN at l;rw[ai a]at l;cases l;exact q
   ·unfold yN at n;rw[ai a]at n;cases n
  ·unfold yN
   rw[aj a,GA (p:=(J,v)) a];exact i
theorem zL.dct {A:Hx}{kvs:List (Key×W)}(S:zL K φ A H)(q:RV K φ H (.ref n) v)(e:A[n]? =some (.dct kvs)):∃p us,v=.ref p/\φ[n]? =some p/\H p=some (.dK us)/\us.map (·.1)=kvs.map (·.1)/\zE K φ H (kvs.map (·.2)) (us.map (·.2)):=by obtain⟨p,rfl,d⟩:=q;obtain⟨P,c,us,b,a,h⟩:=S.ob n _ e;rw[d]at c;cases c;exact⟨p,us,rfl,d,b,a,h⟩
def Si:W->W->Hx->R W:=λd k A=>match d,X3 k with
 |.ref n,some k=>match A[n]? with
  |some (.dct kvs)=>match yN k kvs with|some w=>.ok w A|none=>.bad
  |_=>.bad
 |_,_=>.bad
def Af:V->List V->Hp->VK->Prop:=λx a H Q=>∃p u k d,x=.ref p/\a=[kV k,d]/\H p=some (.dK u)/\u.length<sizeLine/\(∀v,kJ u k=some v->Q v H)/\(kJ u k=none->Q d (upd H p (.dK (putK u k d))))
def D5:YW X "dict.setdefault" Af:=by
 intro P s N H x S v T Q I rx g h;obtain⟨p,K,k,d,rfl,rfl,f,y,l,j⟩:=h;cases rx;obtain⟨U,u,rfl,i,c⟩:=g.two;obtain⟨z,B,E,A,C⟩:=M0 I.hok f;refine call_meetsIn PySem.F.slot_dict_setdefault C.typeIs PySem.F.entry_dict_setdefault (PySem.F.args_dict_setdefault_3 _ _ _) (kt_meets_setdefault (yZ X.prog X.w) p (TY i) B u) ⟨E,C,by rw[<- A.length];exact z,λv n=>?_,λJ M D o=>?_⟩
 ·have r:=A.val k
  rw[n]at r;cases e:kJ K k with|none=>rw[e]at r;exact r.elim|some a=>rw[e]at r;exact⟨a,H,I.tok _,r,l a e⟩
 ·have r:=A.val k
  rw[J]at r;cases e:kJ K k with
  |some a=>rw[e]at r;exact r.elim|none=>
   have b:(putK K k d).length<=sizeLine:=by have:=Ec K k d;lia
   have L:∃q,M.get? p=some q:=let ⟨q,_,_,t,_⟩:=D;⟨q,t⟩
   exact⟨d,_,eD I (by rw[f];exact True.intro) o L (eE b B (A.put k c) D),c,j e⟩
noncomputable def Vp (x:W)(A:Hx):Bool:=match x with
 |.ref n=>match A[n]? with|some (.dct _)=>true|_=>false
 |_=>false
def QM:W->W->W->Hx->R W:=λd k v A=>match d,X3 k with
 |.ref n,some k=>match A[n]? with
  |some (.dct kvs)=>if kvs.length<zT then(match yN k kvs with|some w=>.ok w A|none=>.ok v (A.set n (.dct (kvs++[(k,v)])))) else .bad
  |_=>.bad
 |_,_=>.bad
def K0 (g:W->W->W->Hx->R W)(a b c:Ev):Ev:=λe A=>(a e A).bind λx f=>if Vp x f then(b e f).bind λy h=>(c e h).bind λz d=>g x y z d else .bad
def BU {A:Hx}{w:W}(S:zL K φ A H)(q:RV K φ H w v)(e:Vp w A=true):Vk K "dict" v H:=by
 unfold Vp at e;cases w with
 |ref n=>
  dsimp only at e;cases E:A[n]? with
  |none=>rw[E]at e;cases e|some o=>cases o with|dct a=>obtain⟨p,u,rfl,_,h,_⟩:=S.dct q E;exact .inr (.inr (.inl ⟨rfl,.inl ⟨u,h⟩⟩))|_=>rw[E]at e;cases e
 |_=>cases e
end
def SX (d:Addr)(o:Obj)(u:List (Key×V)):It:=
 ⟨λi H=>H d=some (.frz o (.dK u))/\i<u.length,λi H x h=>∃t p,u[i]? =some p/\H t=none/\x=.ref t/\h=upd H t (.tup [kV p.1,p.2]),λi H=>H d=some (.frz o (.dK u))/\u[i]? =none⟩
def f3 {k:Key}(h:(yZ P w).is k u=true):RelV (kV k) u:=by
 rw[EN]at h;rcases ZH h with ⟨i,t,rfl,rfl⟩|⟨x,t,rfl,rfl⟩
 ·exact⟨t,rfl⟩
 ·exact⟨t,rfl⟩
theorem KV.at:∀{U:List (Key×V)}{v:List (Key×Value)}{i:Nat}{p:Key×V},KV U v->U[i]? =some p->∃u,v[i]? =some (p.1,u)/\RelV p.2 u
 |[],_,_,_,_,e=>by simp at e|q::U,_,0,p,.cons (b:=b) r t,e=>by simp at e;subst e;exact⟨b.2,by simp only[List.getElem?_cons_zero];rw[r.1],r.2⟩
 |q::U,_,i+1,p,.cons r t,e=>by
  obtain⟨u,H,h⟩:=KV.at (i:=i) (p:=p) t (by simpa using e)
  exact⟨u,by simpa using H,h⟩
section
variable {s:Shared}
def _root_.L2.Inv.frzD {d:Addr}{o:Obj}{u:List (Key×V)}{f:Nat}(I:Inv X o6 σ H s)(h:H d=some (.frz o (.dK u)))(p:∃E,o.data=.dict E f):∃vs,KV u vs/\s.heap.DictAt (yZ X.prog X.w) d vs f:=by
 obtain⟨a,z,x,vs,l,D⟩:=I.hok d _ h;obtain⟨g,v,e,n,t,c,r⟩:=D.dictAt;rw[a]at n;cases n;obtain⟨E,q⟩:=p;have b:=c;rw[q]at b;injection b with j i
 subst i;exact⟨vs,l,o,e,a,t,c,r⟩
end
def C1:entryFor table "dict_itemiterator.__iter__"=some Builtin.«dict_keyiterator.__iter__»:=entryFor_alias (id' := "dict_keyiterator.__iter__") (by kernel_rfl)
 (by first|rfl|decide +kernel|(unfold String.splitOn;simp +decide [String.splitOnAux])) (by decide +kernel) (by kernel_rfl)
def EE {K:Frag}(d Z:Addr)(o:Obj)(us:List (Key×V))(l:Nat)(j:∃T,o.data=.dict T l):
  Turn P w K (.Tuple oU kk oK) (SX d o us) [Z] Z (λi h=>∃ok a,IsItemIter h Z d i us.length l ok a) where
 mem:=by simp
 obj:=λi h ⟨ok,a,U⟩ b c=>by
  rw[cw.mp c];exact⟨_,U,λv e=>nomatch e⟩
 keep:=λi h h' ⟨ok,a,U⟩ k=>⟨ok,a,k Z (by simp) _ U⟩
 item:=by
  intro X r hw t B i o6 s σ H E I hf U n;subst r hw t;obtain⟨ok,a,U⟩:=U;obtain⟨hd,g⟩:=n;obtain⟨vs,Y,D⟩:=I.frzD hd j;obtain⟨u,L,C⟩:=KV.at Y (i:=i) (p:=us[i]) (by simp[g])
  have S:IsItemIter s.heap Z d i vs.length l ok a:=by rw[<- Y.length];exact U
  refine wpAny_pyNext_items_item S D L λkey h1 y N hT M kp=>⟨_,rfl,wpAny_letOwnedTupleGo_items N λh2 q f=>?_⟩;have lt:Z<s.heap.objs.size:=aM U;have T2:h2.get? s.heap.objs.size=some { cls:=.type "tuple",data:=.seq #[key,u] }:=f.extBut _ _ (ne_of_gt lt) hT;refine⟨.ref s.heap.objs.size,upd H s.heap.objs.size (.tup [kV us[i].1,us[i].2]),?_,rfl,⟨s.heap.objs.size,us[i],by simp[g],I.hok.fresh (ao _),rfl,rfl⟩,⟨_,_,by rw[Y.length];exact q⟩,λb c=>?_⟩
  ·refine I.spun (fp:=[Z]) (t':=s.toks) (λb ob c x=>?_) hf (ao _) ?_
   ·exact f.extBut _ _ (λz=>c (by simp[z])) (kp b ob (λz=>c (by simp[z])) x)
   ·exact⟨by show 2<=sizeLine;decide,[key,u],.cons (f3 y) (.cons C .nil),_,T2,⟨rfl,rfl⟩,0,rfl⟩
  ·show upd H s.heap.objs.size _ b=none
   have bn:b≠s.heap.objs.size:=λz=>by rw[cw.mp c]at z;exact absurd lt (by rw[z];exact aS _)
   rw[qo bn];exact(hf b c).1
 done:=by
  intro X r hw t B i o6 s σ H E I hf U n;subst r hw t;obtain⟨ok,a,U⟩:=U;obtain⟨hd,g⟩:=n;obtain⟨vs,Y,D⟩:=I.frzD hd j;have S:IsItemIter s.heap Z d i vs.length l ok a:=by rw[<- Y.length];exact U
  have hn:vs[i]? =none:=by rw[List.getElem?_eq_none_iff]at g ⊢;rw[<- Y.length];exact g
  exact wpAny_pyNext_items_end (I.ok.hd B) S D hn λh1 J=>⟨rfl,I.spun0 (fp:=[Z]) (t':=s.toks) (λb ob c x=>J b ob (λz=>c (by simp[z])) x) hf⟩
 self:=λA i s Q E ⟨ok,a,U⟩ h=>by have hT:s.TypeIs (.ref Z) "dict_itemiterator":=⟨_,U,rfl⟩;refine wpAny_pyIter_slot hT F.slot_dict_itemiterator_iter (wpAny_call_entry F.slot_dict_itemiterator_iter hT C1 ?_ (F.args_dict_itemiterator_iter_1 _));show wpAny _ _ (ret (.ref Z)) _ _ s;exact cg ⟨_,rfl,"dict_itemiterator",_,hT,F.slot_dict_itemiterator_next.lookup,h⟩
section
variable {a b:Expr}{m:Ev}
def f5 (td:TE):TI:=λa H R=>td a H λx h=>∃d u,x=.ref d/\h d=some (.dK u)/\∀o,R (SX d o u) (upd h d (.frz o (.dK u)))
def CZ {td:TE}(y:PE X a td)(i:attributeBase a "items" X.env (eval a X.env)=eval a X.env)(g:(oM.endLine==oH.line)=true):
  PI X (.Tuple oU kk oK) (.Call (.Attribute a "items" oM) [] [] oH) (f5 td):=by
 intro P s L H R I h;refine wpAny_Call_method0_late i g (zQ (y P s L H _ I h) λv S ⟨x,Q,n,u,d,U,T,N,q⟩=>?_);subst T;cases u;obtain⟨z,f,M,C,K⟩:=M0 n.hok N;obtain⟨o,l,p,c,J,t,r⟩:=id K;refine⟨"dict","dict.items",PySem.F.plainAttrs_dict,PySem.F.slot_dict_items,PySem.F.type_dict_items,K.typeIs,λb E=>by cases E;exact⟨o,c,J.2.1⟩,Calls.callWith_builtin rfl (PySem.evalArgs_none ?_)⟩
 refine call_meetsIn PySem.F.slot_dict_items K.typeIs PySem.F.entry_dict_items (PySem.F.args_dict_items_1 _) (meets_dict_items (yZ X.prog X.w) d f) ⟨⟨M,K⟩,?_⟩;have B:Inv X P L (upd Q d (.frz o (.dK U))) { S with heap:=S.heap,toks:=S.toks }:=n.write (x:=d) (e:=d) (o:=.frz o (.dK U)) (t':=S.toks) (h':=S.heap) (by rw[N];exact True.intro) (.inl rfl) (λ_ _ _ q=>q) ⟨o,c⟩ ⟨c,z,f,M,C,K⟩
 have j:Inv X P L (upd Q d (.frz o (.dK U))) { S with heap:=S.heap.push { cls:=.type "dict_items",data:=.fields #[.ref d] } }:=B.kept (t':=S.toks) λb ob q=>af _ q
 have D:(S.heap.push { cls:=.type "dict_items",data:=.fields #[.ref d] }).DictAt (yZ X.prog X.w) d M p:=⟨o,l,af _ c,J,t,r⟩;refine wpAny_pyIter_items (s:={ S with heap:=S.heap.push { cls:=.type "dict_items",data:=.fields #[.ref d] } }) ⟨_,aC _ rfl,rfl,rfl⟩ D ?_
 refine⟨_,[_],_,_,_,rfl,j.kept (t':=S.toks) λb ob q=>af _ q,EE d _ o U p ⟨l,t⟩,⟨.none,.none,?_⟩,λb A=>?_,q o⟩
 ·rw[C.length];exact aC _ rfl
 ·have E:=cw.mp A
  subst E;exact j.fpOk (ao _) (j.hok.fresh (ao _))
noncomputable def kW:Key->W
 |.inl i=>.int i|.inr x=>.str x
def YR (K:List (Key×W)):jn:=⟨λ_ i=>some (K[i]?.map λp=>.tup [kW p.1,p.2]),K.length⟩
def G7 (m:Ev):Ei:=λa A=>match A with
 |[]=>(m a []).bind λw b=>match w,b with|.ref 0,[.dct kvs]=>if qN (kvs.map (·.2)) then .ok (YR kvs) [] else .bad|_,_=>.bad
 |_=>.bad
def f6 {K:Frag}{d:Addr}{o:Obj}{U:List (Key×V)}{D:List (Key×W)}(P:H d=some (.frz o (.dK U)))(c:U.map (·.1)=D.map (·.1))(y:zE K φ H (D.map (·.2)) (U.map (·.2)))(n:qN (D.map (·.2))=true):
  ZW K φ H (YR D) (SX d o U):=λi a f Y L S=>by
 unfold YR;dsimp only;have h:=L.fz d o _ P;have E:zE K a f (D.map (·.2)) (U.map (·.2)):=y.nrm L.tp L.fz n;have l:U.length=D.length:=by have:=congrArg List.length c;simpa using this
 cases e:D[i]? with
 |none=>
  refine⟨λ_ z=>(by cases z),λ_=>⟨h,?_⟩⟩
  rw[List.getElem?_eq_none_iff]at e ⊢;rw[l];exact e
 |some p=>
  have g:i<D.length:=(cj.mp e).1;refine⟨λu z=>?_,λz=>(by cases z)⟩
  cases z;refine⟨⟨h,by rw[l];exact g⟩,λx X ⟨t,q,b,N,T,w⟩=>?_⟩
  subst T w;have M:q.1=p.1:=by
   have I:(U.map (·.1))[i]? =some q.1:=by simp[b]
   rw[c]at I;simp[e]at I;exact I.symm
  have a2:(D.map (·.2))[i]? =some p.2:=by simp[e]
  obtain⟨v,J,Q⟩:=E.get a2;have j:v=q.2:=by simp[b]at J;exact J.symm
  subst j;rw[M];have r:RV K a f (kW p.1) (kV p.1):=by cases p.1<;>rfl
  obtain⟨C,A,B⟩:=Jp S N (.cons r (.one Q));exact⟨C,A,B⟩
end
mutual
noncomputable def W.beq:W->W->Bool
 |.non,.non=>true|.bl a,.bl b=>a==b|.int a,.int b=>decide (a=b)|.str a,.str b=>decide (a=b)|.tup a,.tup b=>Wy a b|_,_=>false
noncomputable def Wy:List W->List W->Bool
 |[],[]=>true|a::as,b::bs=>a.beq b&&Wy as bs|_,_=>false
end
mutual
theorem W.eq_of:∀{a b:W},a.beq b=true->a=b
 |.non,.non,_=>rfl|.bl a,.bl b,h=>by have H:(a==b)=true:=h;rw[aK]at H;rw[H]|.int a,.int b,h=>by have H:decide (a=b)=true:=h;rw[aq]at H;rw[H]|.str a,.str b,h=>by have H:decide (a=b)=true:=h;rw[aq]at H;rw[H]|.tup a,.tup b,h=>by have H:Wy a b=true:=h;rw[Mb H]|.non,.bl _,h=>nomatch h|.non,.int _,h=>nomatch h|.non,.str _,h=>nomatch h|.non,.tup _,h=>nomatch h|.non,.ref _,h=>nomatch h
 |.bl _,.non,h=>nomatch h|.bl _,.int _,h=>nomatch h|.bl _,.str _,h=>nomatch h|.bl _,.tup _,h=>nomatch h|.bl _,.ref _,h=>nomatch h
 |.int _,.non,h=>nomatch h|.int _,.bl _,h=>nomatch h|.int _,.str _,h=>nomatch h|.int _,.tup _,h=>nomatch h|.int _,.ref _,h=>nomatch h
 |.str _,.non,h=>nomatch h|.str _,.bl _,h=>nomatch h|.str _,.int _,h=>nomatch h|.str _,.tup _,h=>nomatch h|.str _,.ref _,h=>nomatch h
 |.tup _,.non,h=>nomatch h|.tup _,.bl _,h=>nomatch h|.tup _,.int _,h=>nomatch h|.tup _,.str _,h=>nomatch h|.tup _,.ref _,h=>nomatch h
 |.ref _,.non,h=>nomatch h|.ref _,.bl _,h=>nomatch h|.ref _,.int _,h=>nomatch h|.ref _,.str _,h=>nomatch h|.ref _,.tup _,h=>nomatch h|.ref _,.ref _,h=>nomatch h
theorem Mb:∀{a b:List W},Wy a b=true->a=b
 |[],[],_=>rfl|a::as,b::bs,h=>by have H:(a.beq b&&Wy as bs)=true:=h;rw[ak]at H;rw[W.eq_of H.1,Mb H.2]
 |[],_::_,h=>nomatch h
 |_::_,[],h=>nomatch h
end
section
variable {K:Frag}
def FD (K:Frag)(x:Str)(S:Stmt):Prop:=∃f d,kL K x x S f d/\nsIn K mainGlobals x=some (some (.ref f))
def zew {S:Stmt}{b:Value}{o A:b8}{kV d p C ct:Value}(a:nsIn K mainGlobals x=some (some (.ref f)))
  (l:K.lookup f=some ⟨b,o,.func (fnOf x x (gU S) (jV S) (qf S) .none kV d p A C ct),oX⟩)(c:codeIn K C x=true)(k:keepIn K (.ref f)=true):FD K x S:=⟨f,_,eB l c k,a⟩
def CD (K:Frag)(x:Str)(i:Int):Prop:=∃t,nsIn K mainGlobals x=some (some (.int i t))
def zdO {i:Int}{t:Tok}(a:nsIn K mainGlobals x=some (some (.int i t))):CD K x i:=⟨t,a⟩
end
open PySem PySem.Spec PyProof.Rows L2 Mi
@[irreducible] def zx (X:Cx)(x:XR)(e:Expr)(m:Ev):Prop:=Mi.SE X x e m
def Xm:@zx=@Mi.SE:=by delta zx;rfl
@[irreducible] def gj (X:Cx)(x:XR)(e:bW)(m:Ea):Prop:=Mi.SA X x e m
@[irreducible] def yz (X:Cx)(x:XR)(e:Expr)(m:Ev):Prop:=Mi.ST X x e m
@[irreducible] def Zf (X:Cx)(x:XR)(e:Expr)(m:Ev):Prop:=Mi.SW X x e m
@[irreducible] def yC (X:Cx)(x:XR)(S:Stmt)(m:Ex):Prop:=Mi.SS X x S m
@[irreducible] def yI (X:Cx)(x:XR)(S:b9)(m:Ex):Prop:=Mi.JO X x S m
@[irreducible] def ku (X:Cx)(x:XR)(t e:Expr)(m:Ei):Prop:=Mi.SI X x t e m
@[irreducible] def wL (X:Cx)(t:Expr)(m:Tg):Prop:=Mi.SG X t m
@[irreducible] def Zx (X:Cx)(x:XR)(e:Expr)(m:jP):Prop:=Mi.SF X x e m
@[irreducible] def gm (X:Cx)(x:XR)(e:Expr)(m:jP):Prop:=Mi.SQ X x e m
@[irreducible] def gX (X:Cx)(e:bW)(m:Ev):Prop:=Mi.WA X e m
@[irreducible] def gR (X:Cx)(e:Expr)(g:List Comprehension)(S:Scope)(c:Pos)(d:Nat)(E:Em):Prop:=Mi.SM X e g S c d E
section
variable {xr:XR}{K:Frag}{a b c:Expr}{m ma mb mc:Ev}{m1 m2:Ex}{st:Stmt}{oQ:b9}
def zV:@zx=@Mi.SE/\@gj=@Mi.SA/\@yz=@Mi.ST/\@Zf=@Mi.SW/\@yC=@Mi.SS/\@yI=@Mi.JO/\@ku=@Mi.SI/\@wL=@Mi.SG/\@Zx=@Mi.SF/\@gm=@Mi.SQ/\@gX=@Mi.WA/\@gR=@Mi.SM:=by with_unfolding_all exact⟨rfl,rfl,rfl,rfl,rfl,rfl,rfl,rfl,rfl,rfl,rfl,rfl⟩
def zm {M:Ea}(a:zx X xr e ma)(H:gj X xr es M)(h:jb e es X:=by rfl):gj X xr (e::es) (zi ma M):=by simp only[zV]at*;exact Mi.Kv a H h
def zt:gj X xr [] zu:=by simp only[zV]at*;exact Mi.Xl
def jy (H:zx X xr a ma)(h:zx X xr b mb):zx X xr (.BinOp a .Add b o7) (zj qR ma mb):=by simp only[zV]at*;exact Zl (dv.or (AM.or (Cj.or ej))) fm ft H h
def Yk {q:jP}(H:X.calm=true)(b:X.mg "all"=none)(a:gm X xr e q)(h:Gl X "all":=by rfl)(c:jb e [] X:=by rfl):
  zx X xr (.Call (.Name "all" p) [e] [] o7) (mQ Ws q):=by
 simp only[zV]at*;exact Wc (Bi H) Mq Nf b (by rfl) a h (by decide) (by decide) c (by rfl)
def Zk {r:bW}(f:zx X xr a ma)(e:zx X xr (.BoolOp .And (b::r) o7) mb):zx X xr (.BoolOp .And (a::b::r) o7) (kR ma mb):=by
 simp only[zV]at*;exact PE.imp (cQ f e) λt H Q ⟨p,A,j,S,i,h⟩=>by
   refine tM.go S i (zS.mp h) λw o c n v g l d q=>?_;cases w with
   |bl k=>
    refine⟨k,q,?_⟩;cases k with|true=>rw[ai rfl];exact⟨c,o,j,d,i.mono l,qw g (λ_ _ z=>z.mono l) λ_ _ z=>z.mono l⟩|false=>rw[aj aH];exact g c n _ l d rfl
   |non=>cases g|int _=>cases g|str _=>cases g|tup _=>cases g|ref _=>cases g|clo _ _ _=>cases g|xc _=>cases g|fn _=>cases g
def f7 {q:jP}(H:X.calm=true)(b:X.mg "any"=none)(a:gm X xr e q)(h:Gl X "any":=by rfl)(c:jb e [] X:=by rfl):
  zx X xr (.Call (.Name "any" p) [e] [] o7) (mQ Wu q):=by
 simp only[zV]at*;exact Wc (Cp H) Mq Nf b (by rfl) a h (by decide) (by decide) c (by rfl)
def j0 {i j}:zx X xr (.Constant (.bool i) j o7) (qa (.bl i)):=by simp only[zV]at*;exact PE.imp cF λb H Q ⟨a,A,c,S,r,h⟩=>h a H _ .refl S rfl
def wV {g:W->W->Hx->R W}(h:wR X op g)(c:zx X xr a ma)(H:zx X xr b mb)(e:op≠.In:=by decide)(d:op≠.NotIn:=by decide):zx X xr (.Compare a [op] [b] o7) (zj g ma mb):=by simp only[zV]at*;exact let ⟨r,f,a2,A⟩:=h.ex;Mh f a2 A c H (h.mks b e d)
def NI {o:CmpOp}{g l:W->W->Hx->R W}(h:wR X op g)(p:wR X o l)(e:zx X xr a ma)(d:zx X xr b mb)(H:zx X xr c mc)(n:lastMarks [op,o] [b,c]=false:=by with_unfolding_all rfl):
  zx X xr (.Compare a [op,o] [b,c] o7) (wQ g l ma mb mc):=by
 simp only[zV]at*;exact let ⟨r,q,a2,A⟩:=h.ex;let ⟨j,i,f,B⟩:=p.ex;CW q a2 A i f B e d H n
def zY {k:Nat}{f:Fn}{M:Ea}(F:qG X.prog X.w X.K X.mg X.base k x n f)(r:jd k X.A)(t:gj X jO (e::es) M)(g:Zt M n:=by repeat' (first|exact zO|refine zw ?_))(j:Gl X x:=by rfl)
  (c:yo x:=by decide)(Y:jb e es X:=by rfl)(l:kX o7 es X:=by rfl):
  zx X jO (.Call (.Name x p) (e::es) [] o7) (zU f M):=by
 simp only[zV]at*;obtain⟨fa,fd,ps,F,U,i,o⟩:=F;refine PE.imp (O5 F r j U i o .nil ew t c Y l) λZ H Q ⟨N,A,D,S,T,h⟩=>?_;have C:=zS.mp h;refine⟨N,A,D,S,T,?_⟩;cases E:M D A with
 |ok J I=>
  rw[E]at C;intro b H1 P L y q;have v:P.length=n:=by rw[<- q.length];exact g D A J I E
  rw[aX];exact⟨v,b,I,J,y,q,qw C (λ_ _ z=>z.mono L) λx A2 z a B d u=>(z a B (L.trans d) u).elim⟩
 |exc x I=>rw[E]at C;exact C|bad=>rw[E]at C;exact C
def f9 {g:W->W->Hx->R W}(h:Li X op g)(c:zx X xr a ma)(H:zx X xr b mb)(d:behindInMarks op b=false:=by rfl):zx X xr (.Compare a [op] [b] o7) (zj g ma mb):=by simp only[zV]at*;exact let ⟨r,e,a2,A⟩:=h.ex;Mh e a2 A c H d
def Of (t:zx X xr a ma)(P:zx X xr b mb)(g:jb b [] X:=by rfl)
  (c:attributeBase a "count" X.env (eval a X.env)=eval a X.env:=by rfl)
  (d:((backTo oH (starEach [b] X.env)).all (λx=>!x.1)&&(backToKw oH (keywordEach [] X.env)).all (λx=>x.1.isSome)
   && decide ([b].length+([]:b0).length+(if ([]:b0).isEmpty then 0 else 1)<30))=true:=by rfl)(e:(oM.endLine==oH.line)=true:=by rfl):
  zx X xr (.Call (.Attribute a "count" oM) [b] [] oH) (TH Xp ma mb):=by
 simp only[zV]at*;exact PE.imp (fL PySem.F.slot_tuple_count PySem.F.type_tuple_count Cs t (jk P j3 g) c d e g (by rfl)) λY H Q ⟨U,A,Z,S,J,h⟩=>by
   refine tM.go S J (zS.mp h) λw A1 i H1 v K L y n=>?_;cases w with
   |tup M=>
    obtain⟨p,E,rfl,T,r⟩:=n;refine⟨p,E,rfl,T,?_⟩;refine tM.go y (J.mono L) (qw (zS.mp K) (λ_ _ z=>z) λ_ _ z=>z.mono L) λj A2 f B N C l u q=>?_;unfold Xp at C;dsimp only at C
    by_cases D:(yu j&&M.all yu)=true
    ·rw[ai D]at C
     rw[ak]at D;obtain⟨o,I⟩:=Ua q D.1 (r.mono l) D.2;refine⟨p,E,N,rfl,rfl,l.tp _ _ T,Kl q D.1,o,?_⟩;rw[I];rw[GP]at C;exact C f B _ (L.trans l) u (by simp[RV])
    ·rw[aj D]at C;exact C.elim
   |_=>exact K.elim
def O0:zx X xr (.Dict [] [] o7) LM:=by
 simp only[zV]at*;exact PE.imp Bd λd H Q ⟨c,A,e,S,r,h⟩ p a=>by obtain⟨l,b⟩:=S.alloc (o:=.dct []) a (u:=.dK []) ⟨[],jR,rfl,.nil⟩;exact h _ _ _ l b ⟨p,rfl,by rw[<- S.len];simp⟩
def D6 {k:Nat}(x:jd k X.A)(B:zx X xr a ma)(y:zx X xr b mb)(u:SO b:=by intro _ _;rfl):zx X xr (.Subscript a b o7) (zj Si ma mb):=by
 simp only[zV]at*;exact PE.imp (eH (eC x) B y u) λZ H Q ⟨Y,A,ρ,S,J,h⟩=>by
   refine tM.go S J (zS.mp h) λw A1 f H1 v M l C j=>?_;refine tM.go C (J.mono l) (qw (zS.mp M) (λ_ _ z=>z) λ_ _ z=>z.mono l) λg U c D v2 I L d q=>?_;unfold Si at I;cases w with
   |ref n=>
    cases g with
    |int i=>
     obtain rfl:=q;dsimp only[X3]at I;cases e:U[n]? with
     |none=>rw[e]at I;exact I.elim|some o=>cases o with
      |dct K=>
       rw[e]at I;dsimp only at I;obtain⟨p,us,rfl,f1,T,P,N⟩:=d.dct (j.mono L) e;cases E:yN (.inl i) K with
       |none=>rw[E]at I;exact I.elim|some w=>
        rw[E]at I;obtain⟨v,t,r⟩:=(Uj (.inl i) P N).1 w E;refine⟨p,v,rfl,?_,I c D v (l.trans L) d r⟩;rw[<- t];exact YL.k (k:=.inl i) T
      |_=>rw[e]at I;exact I.elim
    |_=>exact I.elim
   |_=>exact I.elim
def CU {i:Int}{t:Tok}(g:Gl X x)(b:X.mg x=some (.int i t))(d:yo x:=by decide):zx X xr (.Name x o7) (qa (.int i)):=by simp only[zV]at*;exact PE.imp (AZ g b (v:=.int i) ⟨t,rfl⟩ d) λc H Q ⟨a,A,e,S,r,h⟩=>h a H _ .refl S rfl
def gg {c:Expr}(f:yz X xr c mc)(i:zx X xr a ma)(g:zx X xr b mb):zx X xr (.IfExp c a b o7) (eT mc ma mb):=by
 simp only[zV]at*;exact PE.imp (Cr f i g) λq H Q ⟨p,A,n,S,r,h⟩=>by
   refine tT.go S r (zS.mp h) λw o j=>?_;cases w with
   |bl k=>
    refine⟨k,rfl,λd t l e=>?_⟩;cases k with|true=>rw[ai rfl];exact⟨d,o,n,e,r.mono l,qw j (λ_ _ z=>z.mono l) λ_ _ z=>z.mono l⟩|false=>rw[aj aH];exact⟨d,o,n,e,r.mono l,qw j (λ_ _ z=>z.mono l) λ_ _ z=>z.mono l⟩
   |non=>cases j|int _=>cases j|str _=>cases j|tup _=>cases j|ref _=>cases j|clo _ _ _=>cases j|xc _=>cases j|fn _=>cases j
def zB {i j}:zx X xr (.Constant (.int i) j o7) (qa (.int i)):=by simp only[zV]at*;exact PE.imp NJ λb H Q ⟨a,A,c,S,r,h⟩=>h a H _ .refl S rfl
def gz (t:Ty){P:Pos}(o:X.mg "isinstance"=none)(b:X.mg x=none)(f:bootBuiltins x=some (.type t.nm))(i:zx X xr e m)(g:Gl X "isinstance":=by rfl)(c:Gl X x:=by rfl)
  (n:x ≠ "__name__":=by decide)(u:yo x:=by decide)
  (j:starEach [e,.Name x P] X.env=(false,eval e X.env)::starEach [.Name x P] X.env:=by rfl)(y:(backTo o7 (starEach [.Name x P] X.env)).any (·.1)=false:=by rfl):
  zx X xr (.Call (.Name "isinstance" p) [e,.Name x P] [] o7) (w9 t m):=by
 simp only[zV]at*;exact PE.imp (Z3 AF g o (by rfl) (jk i (jk (G6 c b f (v:=.ty t.nm) rfl n u) j3) j) (by decide) (by decide) j y) λD H Q ⟨C,A,I,S,r,h⟩=>by
   refine tM.go S r (zS.mp h) λw B a z v j l d q=>?_;cases E:j6 w B with
   |none=>rw[E]at j;exact j.elim|some T=>
    rw[E]at j;exact⟨v,T,t,rfl,OQ d q E,j a z _ l d rfl⟩
def zW (c:zx X xr a ma)(H:zx X xr b mb)(h:NA b:=by intro _ _;rfl):zx X xr (.Subscript a b o7) (zj zD ma mb):=by simp only[zV]at*;exact PE.imp (d2 d8 c H h) (zj.read fe fg)
def qK {q:jP}(a:X.mg "len"=none)(H:gm X xr e q)(h:Gl X "len":=by rfl)(b:jb e [] X:=by rfl):
  zx X xr (.Call (.Name "len" p) [e] [] o7) (mQ qe q):=by
 simp only[zV]at*;exact Wc Fi (λ_ _=>jY) fj a (by rfl) H h (by decide) (by decide) b (by rfl)
def wM {q:jP}(h:Zx X xr e q):zx X xr e (jN q):=by simp only[zV]at*;exact PE.imp h jN.read
def EK {P:Pos}(u:X.calm=true)(M:X.mg "list"=none)(e:X.mg "range"=none)(x:zx X xr a ma)(t:Gl X "list":=by rfl)(f:Gl X "range":=by rfl)(g:starEach [a] X.env=[(false,eval a X.env)]:=by rfl)
  (c:starEach [.Call (.Name "range" P) [a] [] oP] X.env=(false,eval (.Call (.Name "range" P) [a] [] oP) X.env)::starEach [] X.env:=by rfl):
  zx X xr (.Call (.Name "list" p) [.Call (.Name "range" P) [a] [] oP] [] o7) (US ma):=by
 simp only[zV]at*;exact PE.imp (Kk (EG u) t M (by rfl) (jk (fQ f e (jk x j3 (by rw[g];rfl)) g) j3 c) (by decide) (by decide) c (by rfl)) λT H Q ⟨N,A,U,S,I,h⟩=>by
   refine tM.go S I (zS.mp h) λw Y b E v D L C q=>?_;cases w with
   |int j=>
    obtain rfl:=q;dsimp only at D
    by_cases d:(jl j&&decide (j.toNat<=zT))=true
    ·rw[ai d]at D
     rw[ak,aq]at d;refine⟨j,rfl,λp n=>⟨p,j,rfl,jR,QH d.1,Yc d.2,λl o=>?_⟩⟩;have J:Le X.K b E b (upd E p (.rng 0 j)):=Le.new n;have r:zE X.K b (upd E p (.rng 0 j)) ((List.range j.toNat).map λ(i:Nat)=>W.int i) (JK j.toNat):=by
      have:=(zE.ints (K:=X.K) (φ:=b) (H:=upd E p (.rng 0 j)) (ns:=(List.range j.toNat).map λ(i:Nat)=>(i:Int)) (vs:=JK j.toNat)).mpr (by unfold JK;simp)
      rw[aY]at this;exact this
     obtain⟨z,y,B⟩:=QR (C.lay n) o r;exact D _ _ _ ((L.trans J).trans z) y B
    ·rw[aj d]at D;exact D.elim
   |_=>exact D.elim
def qV {M:Ea}(h:gj X xr es M)(H:Zt M n)(a:n<=zT:=by decide):zx X xr (.List es o7) (qL M):=by simp only[zV]at*;exact Mi.OZ h H a
def Yh {q:jP}(H:X.calm=true)(b:X.mg "max"=none)(a:gm X xr e q)(h:Gl X "max":=by rfl)(c:jb e [] X:=by rfl):
  zx X xr (.Call (.Name "max" p) [e] [] o7) (mQ wY q):=by
 simp only[zV]at*;exact Wc (Dj H) fF Ar b (by rfl) a h (by decide) (by decide) c (by rfl)
def OF (e:X.calm=true)(w:X.mg "min"=none)(o:zx X xr a ma)(n:zx X xr b mb)(l:Gl X "min":=by rfl)(B:jb a [b] X:=by rfl)(z:jb b [] X:=by rfl)(h:kX o7 [b] X:=by rfl):
  zx X xr (.Call (.Name "min" p) [a,b] [] o7) (zj T5 ma mb):=by
 simp only[zV]at*;exact Mt (Dd e) Qh (λt A H x y u v Q S d c p=>by
   obtain⟨i,j,r,E,q⟩:=Qe (K:=X.K) (f:=λi j=>.int (if j<i then j else i)) (g:=λi j=>.int (if j<i then j else i)) (λ_ _ _ _=>rfl) t A H x y u v Q S d c p;subst r;subst E;exact⟨i,j,rfl,q⟩) w (by rfl) o n l (by decide) (by decide) B z h
def wD (H:zx X xr a ma)(h:zx X xr b mb):zx X xr (.BinOp a .Mod b o7) (zj Jt ma mb):=by simp only[zV]at*;exact Zl dz Wb (KO Aj λ_ _ _ _=>rfl) H h
def qQ (H:zx X xr a ma)(h:zx X xr b mb):zx X xr (.BinOp a .Mult b o7) (zj qd ma mb):=by simp only[zV]at*;exact Zl (dy.or eu) fv Ak H h
def U1 (h:zx X xr a ma):zx X xr (.UnaryOp .USub a o7) (yU Qr ma):=by
 simp only[zV]at*;exact eR N8 (λx A=>by unfold Qr;split;exact jY;exact jc) (λb A H x u Q S q p=>by
  cases u with|int i=>obtain rfl:=q;exact⟨i,rfl,p b H _ .refl S rfl⟩|_=>exact p.elim) h
def Yn {j}:zx X xr (.Constant .none j o7) (qa .non):=by simp only[zV]at*;exact PE.imp cG λb H Q ⟨a,A,c,S,r,h⟩=>h a H _ .refl S rfl
def O9 (c:zx X xr a ma):zx X xr (.UnaryOp .Not a o7) (kj ma):=by
 simp only[zV]at*;exact PE.imp (cR c) λi H Q ⟨g,A,j,S,r,h⟩=>by
   refine tM.go S r (zS.mp h) λw n b f v e l d q=>?_;cases w with|bl k=>exact⟨k,q,e b f _ l d rfl⟩|non=>cases e|int _=>cases e|str _=>cases e|tup _=>cases e|ref _=>cases e|clo _ _ _=>cases e|xc _=>cases e|fn _=>cases e
def ZL {op}(h:zx X xr a ma):zx X xr (.BoolOp op [a] o7) ma:=by simp only[zV]at*;exact cP h
def ED (ho:zx X xr a ma)(he:zx X xr b mb)(hf:zx X xr c mc)(h1:jb b [c] X:=by rfl)(h2:jb c [] X:=by rfl)
  (j:attributeBase a "setdefault" X.env (eval a X.env)=eval a X.env:=by rfl)
  (r:((backTo oH (starEach [b,c] X.env)).all (λx=>!x.1)&&(backToKw oH (keywordEach [] X.env)).all (λx=>x.1.isSome)
   && decide ([b,c].length+([]:b0).length+(if ([]:b0).isEmpty then 0 else 1)<30))=true:=by rfl)(g:(oM.endLine==oH.line)=true:=by rfl)(N:kX oH [c] X:=by rfl):
  zx X xr (.Call (.Attribute a "setdefault" oM) [b,c] [] oH) (K0 QM ma mb mc):=by
 simp only[zV]at*;exact PE.imp (ML PySem.F.plainAttrs_dict PySem.F.slot_dict_setdefault PySem.F.type_dict_setdefault D5 ho (jk he (jk hf j3 h2) h1) j r g h1 N) λσ H Q ⟨φ,A,ρ,S,re,h⟩=>by
   refine tM.go S re (zS.mp h) λw A1 oO H1 v h1 I S1 q1=>?_
   by_cases hd:Vp w A1=true
   ·rw[ai hd]at h1
    refine⟨BU S1 q1 hd,?_⟩;refine tM.go S1 (re.mono I) (qw (zS.mp h1) (λ_ _ z=>z) λ_ _ z=>z.mono I) λy A2 φ2 H2 v2 h2 l2 S2 q2=>?_;have l:=I.trans l2;refine tM.go S2 (re.mono l) (qw (zS.mp h2) (λ_ _ z=>z) λ_ _ z=>z.mono l) λw3 A3 f T q d l3 P Z=>?_;have L:=l.trans l3;unfold QM at d;cases w with
    |ref n=>cases y with
     |int i=>
      obtain rfl:=q2;dsimp only[X3]at d;cases t:A3[n]? with
      |none=>rw[t]at d;exact d.elim|some o=>cases o with
       |dct kvs=>
        rw[t]at d;dsimp only at d;obtain⟨p,us,rfl,f1,g1,g2,g3⟩:=P.dct ((q1.mono l2).mono l3) t;have hlen:us.length=kvs.length:=by have:=congrArg List.length g2;simpa using this
        by_cases J:kvs.length<zT
        ·rw[ai J]at d
         have D:=Uj (.inl i) g2 g3;refine⟨p,us,.inl i,q,rfl,rfl,g1,?_,λv' M=>?_,λhn=>?_⟩
         ·rw[hlen]
          have:sizeLine=16777216:=sizeLine_eq
          unfold zT at J;lia
         ·cases E:yN (.inl i) kvs with
          |none=>rw[D.2 E]at M;cases M|some B=>
           rw[E]at d;obtain⟨C,e,Y⟩:=D.1 B E;rw[M]at e;cases e;exact d f T _ L P Y
         ·cases E:yN (.inl i) kvs with
          |some B=>obtain⟨C,e,Y⟩:=D.1 B E;rw[hn]at e;cases e|none=>
           rw[E]at d;dsimp only at d;rw[C3 q hn];have ln:Le X.K f T f (upd T p (.dK (us++[(.inl i,q)]))):=Le.upd f1 (λxs z=>by rw[g1]at z;cases z) (λ_ _ z=>by rw[g1]at z;cases z)
           obtain⟨U,y⟩:=P.write (o:=.dct kvs) (o':=.dct (kvs++[(.inl i,w3)])) t rfl rfl f1 (u:=.dK (us++[(.inl i,q)])) ⟨us++[(.inl i,q)],jR,by simp[g2],by rw[aN,aN];exact(g3.mono ln).append (.one (Z.mono ln))⟩
           exact d _ _ _ (L.trans U) y (Z.mono U)
        ·rw[aj J]at d;exact d.elim
       |_=>rw[t]at d;exact d.elim
     |_=>exact d.elim
    |_=>exact d.elim
   ·rw[aj hd]at h1;exact h1.elim
def Z5 (H:zx X xr a ma)(h:zx X xr b mb):zx X xr (.BinOp a .Sub b o7) (zj Zw ma mb):=by simp only[zV]at*;exact Zl dw Qh (Qe λ_ _ _ _=>rfl) H h
def UN {q:jP}(H:X.calm=true)(b:X.mg "sum"=none)(a:gm X xr e q)(h:Gl X "sum":=by rfl)(c:jb e [] X:=by rfl):
  zx X xr (.Call (.Name "sum" p) [e] [] o7) (mQ gE q):=by
 simp only[zV]at*;exact Wc (DC H) fG fH b (by rfl) a h (by decide) (by decide) c (by rfl)
def qO {x1}{M:Ea}(h:gj X xr es M)(c:Zt M n)(t:n<=zT:=by decide):zx X xr (.Tuple es x1 o7) (qB M):=by
 simp only[zV]at*;exact PE.imp (Mn h) λv H Q ⟨j,A,i,S,r,h⟩=>by
   have g:=zS.mp h;cases e:M i A with
   |ok w o=>
    rw[e]at g;refine⟨j,A,i,S,r,?_⟩;rw[e];intro a z y l f q;refine⟨by rw[<- q.length,c i A w o e];exact Yc t,λp b=>?_⟩
    obtain⟨u,a2,d⟩:=Jp f b q;exact g _ _ _ (l.trans u) a2 d
   |exc x o=>rw[e]at g;refine⟨j,A,i,S,r,?_⟩;rw[e];exact g|bad=>rw[e]at g;exact g.elim
def yf {q:jP}(a:X.mg "tuple"=none)(H:gm X xr e q)(h:Gl X "tuple":=by rfl)(b:jb e [] X:=by rfl):
  zx X xr (.Call (.Name "tuple" p) [e] [] o7) (mQ Zp q):=by
 simp only[zV]at*;exact fh Fd (λ_ _=>jY) AH a (by rfl) H h (by decide) (by decide) b (by rfl)
def gv (i:Nat)(b:X.N[i]? =some x:=by rfl)(a:Y4 X.env.scope x:=by first|exact Or.inl rfl|exact Or.inr (Or.inl rfl)|exact Or.inr (Or.inr rfl))(g:yo x:=by decide)
  (d:(x==("__classdict__":Str))=false:=by decide):zx X xr (.Name x o7) (zM i):=by
 simp only[zV]at*;exact PE.imp (NV b a g d) λn H Q ⟨c,A,f,S,r,h⟩=>by
  unfold zM at h;cases e:f[i]? with
  |none=>rw[e]at h;cases h|some o=>cases o with
   |none=>rw[e]at h;cases h|some w=>
    rw[e]at h;obtain⟨v,l,j⟩:=r.get i w e;exact⟨v,l,h c H v .refl S j⟩
def Bp {i:Ei}{t:Tg}{M:Ev}{e:Em}(l:Nat)(C:bS)(c:X.calm=true)(S:gw X sc)(p:ZP X.N N sc l C=true)(w:ku X xr tg o8 i)
  (n:∀s H fp,wL (jz X N sc s H fp j5) tg t/\gX (jz X N sc s H fp j5) ifs M/\gR (jz X N sc s H fp j5) oN (⟨tg,o8,ifs,0⟩::gs) sc o7 0 e)
  (b:∀g',gs[0]? =some g'->g'.is_async=0:=by intro _ h;cases h<;>rfl)
  (a:∀x,foldedSetIterable o8 X.env x=pure x:=by intro _;rfl):Zx X xr (.ListComp oN (⟨tg,o8,ifs,0⟩::gs) sc o7) (qy l C i t M e):=by
 simp only[zV]at*;exact PE.imp (A9 (g:=tG X.K t) (ti:=tT X.K jO M) (tm:=tE X.K e) c S p b w n a) qy.read
def kA (i j:Nat){y:Str}{q:Pos}{k:Nat}(r:X.calm=true)(h:X.N.Nodup)(n:X.N[i]? =some x:=by rfl)(f:Loc X.env.scope x:=by first|exact Or.inl rfl|exact Or.inr rfl)(I:gM X x:=by first|exact .inl rfl|exact .inr rfl)
  (l:X.N[j]? =some y:=by rfl)(d:Loc X.env.scope y:=by first|exact Or.inl rfl|exact Or.inr rfl)(o:gM X y:=by first|exact .inl rfl|exact .inr rfl):wL X (.Tuple [.Name x p,.Name y q] k o7) (jD i j):=by
 simp only[zV]at*;exact PG.imp (TU r (Z2 (Z6 h n f I) (Z2 (Z6 h l d o) GQ))) λv P H Q ⟨M,A,T,w,b,S,D,c,e,K⟩=>by
   unfold jD at e
   split at e
   ·rename_i U Y
    have E:=aE e;subst E;obtain⟨a,Z,rfl,g,C⟩:=c;obtain⟨B,u,rfl,L,z,t,rfl,J,rfl⟩:=C;exact⟨a,[B,z],rfl,g,rfl,B,[z],rfl,z,[],rfl,rfl,K _ ((D.set L).set J)⟩
   ·cases e
def DB (i j k:Nat){y z:Str}{q r pp:Pos}{t:Nat}(f:X.calm=true)(c:X.N.Nodup)(J:X.N[i]? =some x:=by rfl)(C:Loc X.env.scope x:=by first|exact Or.inl rfl|exact Or.inr rfl)(hf:gM X x:=by first|exact .inl rfl|exact .inr rfl)
  (I:X.N[j]? =some y:=by rfl)(B:Loc X.env.scope y:=by first|exact Or.inl rfl|exact Or.inr rfl)(L:gM X y:=by first|exact .inl rfl|exact .inr rfl)
  (E:X.N[k]? =some z:=by rfl)(u:Loc X.env.scope z:=by first|exact Or.inl rfl|exact Or.inr rfl)(K:gM X z:=by first|exact .inl rfl|exact .inr rfl):
  wL X (.Tuple [.Name x p,.Tuple [.Name y q,.Name z r] t pp] n o7) (Xh i j k):=by
 simp only[zV]at*;exact PG.imp (TU f (Z2 (Z6 c J C hf) (Z2 (TU f (Z2 (Z6 c I B L) (Z2 (Z6 c E u K) GQ))) GQ))) λv σ H Q ⟨φ,A,ρ,w,g,S,re,o,e,kk⟩=>by
   unfold Xh at e
   split at e
   ·rename_i x1 Y Z
    have T:=aE e;subst T;obtain⟨a,vs,rfl,D,rs⟩:=o;obtain⟨v1,r1,rfl,h1,v2,r2,rfl,h2,rfl⟩:=rs;obtain⟨a2,l,rfl,h,b⟩:=h2;obtain⟨d,r3,rfl,P,v4,U,rfl,M,rfl⟩:=b;exact⟨a,[v1,.ref a2],rfl,D,rfl,v1,[.ref a2],rfl,.ref a2,[],rfl,a2,[d,v4],rfl,h,rfl,d,[v4],rfl,v4,[],rfl,rfl,rfl,kk _ (((re.set h1).set P).set M)⟩
   ·cases e
def qZ (i:Nat)(c:X.N.Nodup)(b:X.N[i]? =some x:=by rfl)(h:Loc X.env.scope x:=by first|exact Or.inl rfl|exact Or.inr rfl)(f:gM X x:=by first|exact .inl rfl|exact .inr rfl):wL X (.Name x o7) (zN i):=by
 simp only[zV]at*;exact PG.imp (Z6 c b h f) λv j H Q ⟨g,A,d,w,a,S,r,q,e,k⟩=>by have E:d.set i (some w)=a:=aE e;subst E;exact k _ (r.set q)
def jE (h:zx X xr e m):ku X xr tg e (qF m):=by
 simp only[zV]at*;exact PI.imp (eX h) λσ H Rr ⟨φ,A,ρ,S,re,h⟩=>by
  refine tM.go S re (zS.mp h) λw A1 f H1 v h1 P N Q=>?_;unfold YM at h1;cases e:zK w A1 with
  |none=>rw[e]at h1;exact h1.elim|some ws=>
   rw[e]at h1;dsimp only at h1;cases w with
   |tup us=>
    obtain⟨a,Y,rfl,g,q⟩:=Q;refine⟨a,rfl,.inr ⟨⟨Y,g⟩,h1 f H1 _ P N λi c j A' lw d=>⟨λC b=>?_,λb=>?_⟩⟩⟩
    ·have E:us[i]? =some C:=aE b
     obtain⟨y,l,I⟩:=(q.monoW lw).get E;refine⟨⟨Y,y,lw.tp _ _ g,l⟩,λx Z B=>?_⟩;obtain⟨M,L⟩:=B;subst M;have p:=L Y (lw.tp _ _ g);rw[l]at p;cases p;exact⟨.refl,d,I⟩
    ·have E:us[i]? =none:=aE b
     refine⟨Y,lw.tp _ _ g,?_⟩;rw[<- q.length];exact List.getElem?_eq_none_iff.mp E
   |ref n=>
    obtain⟨a,rfl,g⟩:=Q;have read:∀{c j A' us},Qz X.K f H1 c j->zL X.K c A' j->zK (.ref n) A'=some us->∃Y,qS X.K j a Y/\zE X.K c j us Y:=λ {c j A' us} lw d es=>by
     obtain⟨U,Y,T,z,r⟩:=Gp (w:=.ref n) (v:=.ref a) d ⟨a,rfl,lw.ex _ _ g⟩ es;cases T;unfold zK at es;dsimp only at es;cases J:A'[n]? with
     |none=>rw[J]at es;cases es|some o=>
      rw[J]at es;obtain⟨U,q,r⟩:=d.ob n o J;rw[lw.ex _ _ g]at q;cases q;cases o with|lst xs=>cases es;obtain⟨Y,h1,h2⟩:=r;exact⟨Y,qS.of h1,h2⟩|ro xs=>cases es;obtain⟨Y,h1,h2⟩:=r;exact⟨Y,h1.sq,h2⟩|dct xs=>cases es|td _=>cases es|tr _=>cases es|tab _ _=>cases es
    obtain⟨u,D,_⟩:=read ⟨λ_ _ h=>h,λ_ _ h=>h,λ_ _ _ h=>h⟩ N e;refine⟨a,rfl,.inl ⟨⟨u,D⟩,h1 f H1 _ P N λi c j A' lw d=>⟨λC b=>?_,λb=>?_⟩⟩⟩
    ·dsimp only at b
     cases es:zK (.ref n) A' with
     |none=>rw[es]at b;cases b|some us=>
      rw[es]at b;have E:us[i]? =some C:=aE b;obtain⟨Y,t,r⟩:=read lw d es;obtain⟨y,l,I⟩:=r.get E;refine⟨⟨Y,y,t,l⟩,λx Z B=>?_⟩;obtain⟨M,L⟩:=B;subst M;have p:=L Y t;rw[l]at p;cases p;exact⟨.refl,d,I⟩
    ·dsimp only at b
     cases es:zK (.ref n) A' with
     |none=>rw[es]at b;cases b|some us=>
      rw[es]at b;have E:us[i]? =none:=aE b;obtain⟨Y,t,r⟩:=read lw d es;refine⟨Y,t,?_⟩;rw[<- r.length];exact List.getElem?_eq_none_iff.mp E
   |non=>cases e|bl _=>cases e|clo _ _ _=>cases e|xc _=>cases e|fn _=>cases e|int _=>cases e|str _=>cases e
def Jk (g:Gl X "enumerate")(j:X.mg "enumerate"=none)(e:zx X xr a ma)(c:starEach [a] X.env=[(false,eval a X.env)]:=by rfl):ku X xr (.Tuple oU kk oK) (.Call (.Name "enumerate" p) [a] [] o7) (Zo ma):=by
 simp only[zV]at*;exact PI.imp (Aw g j (jk e j3 (by rw[c];rfl)) c) λu H r ⟨t,A,x,S,i,h⟩=>by
   refine tM.go S i (zS.mp h) λw o b n v f l d q=>?_;cases es:zK w o with
   |none=>rw[es]at f;exact f.elim|some B=>
    rw[es]at f;obtain⟨p,y,rfl,z,Z⟩:=Gy d q es;exact⟨p,QV w,y,rfl,z,f b n _ l d (fT q)⟩
set_option tactic.hygienic true in
def E6 (j:zx X xr a ma)(d:attributeBase a "items" X.env (eval a X.env)=eval a X.env:=by rfl)(e:(oM.endLine==oH.line)=true:=by rfl):
  ku X xr (.Tuple oU kk oK) (.Call (.Attribute a "items" oM) [] [] oH) (G7 ma):=by
 simp only[zV]at*;exact PI.imp (CZ j d e) λZ H x ⟨M,A,ρ,S,N,h⟩=>by
   unfold G7 at h;cases A with
   |cons o A=>exact h.elim|nil=>
    dsimp only at h;have g:M=[]:=by have:=S.len;simpa using this
    subst g;refine tM.go S N (zS.mp h) λw A1 i L v B l r q=>?_
    split at B
    ·rename_i C
     by_cases D:qN (C.map (·.2))=true
     ·rw[ai D]at B
      obtain⟨p,I,rfl,Y,E,T,Q⟩:=r.dct q (kvs:=C) rfl;have J:H p=none:=by
       rcases l.nw 0 p Y with z|z
       ·simp at z
       ·exact z
      refine⟨p,I,rfl,E,λo=>?_⟩;have tp:∀c y,qA X.K L c y->qA X.K (upd L p (.frz o (.dK I))) c y:=λc y t=>G2 t (λxs z=>by rw[E]at z;cases z) (λ_ _ z=>by rw[E]at z;cases z)
      have le:Le X.K [] H [] (upd L p (.frz o (.dK I))):=by
       refine⟨λn c z=>z,λc y t=>tp c y (l.tp c y t),λc u b P=>?_,λn c z=>.inl z,λc z=>?_,λc u U b=>?_⟩
       ·rw[qo (kM b J)];exact l.fr c u b P
       ·by_cases f:c=p
        ·rw[f];exact J
        ·rw[qo f]at z;exact l.st c z
       ·rw[qo (kM b J)];exact l.fz c u U b
      exact B [] _ _ le zL.none (f6 (o:=o) jR T (Q.nrm tp (λc u U b=>by rw[qo (YC b E (by intro z;cases z))];exact b) D) D)
     ·rw[aj D]at B;exact B.elim
    ·exact B.elim
def jg (g:Gl X "range")(t:X.mg "range"=none)(e:zx X xr a ma)(d:starEach [a] X.env=[(false,eval a X.env)]:=by rfl):ku X xr tg (.Call (.Name "range" p) [a] [] o7) (jM ma):=by
 simp only[zV]at*;exact PI.imp (Dw g t (jk e j3 (by rw[d];rfl)) d) λy H r ⟨x,A,z,S,o,h⟩=>by
   refine tM.go S o (zS.mp h) λw C b u v n l i q=>?_;cases w with
   |int j=>
    obtain rfl:=q;dsimp only at n
    by_cases c:jl j=true
    ·rw[ai c]at n
     obtain⟨f,B⟩:=QH c;exact⟨j,rfl,f,B,n b u _ l i NN⟩
    ·rw[aj c]at n;exact n.elim
   |non=>exact n.elim|bl _=>exact n.elim|str _=>exact n.elim|tup _=>exact n.elim|ref _=>exact n.elim|clo _ _ _=>exact n.elim|xc _=>exact n.elim|fn _=>exact n.elim
def GI (o:Gl X "range")(M:X.mg "range"=none)(t:zx X xr a ma)(r:zx X xr b mb)(f:starEach [a,b] X.env=[(false,eval a X.env),(false,eval b X.env)]:=by rfl)(c:starEach [b] X.env=[(false,eval b X.env)]:=by rfl):ku X xr tg (.Call (.Name "range" p) [a,b] [] o7) (QT ma mb):=by
 simp only[zV]at*;exact PI.imp (Ce o M (jk t (jk r j3 (by rw[c];rfl)) (by rw[f,c])) f c) λT H I ⟨P,A,U,S,K,h⟩=>by
   refine tM.go S K (zS.mp h) λw A1 g Z v N l D Q=>?_;refine tM.go D (K.mono l) (qw (zS.mp N) (λ_ _ z=>z) λ_ _ z=>z.mono l) λn A2 e E Y J L C q=>?_;cases w with
   |int i=>
    obtain rfl:=Q;cases n with
    |int j=>
     obtain rfl:=q;dsimp only at J
     by_cases d:(jl i&&jl j)=true
     ·rw[ai d]at J
      rw[ak]at d;obtain⟨y,x⟩:=QH d.1;obtain⟨u,B⟩:=QH d.2;exact⟨i,j,rfl,⟨y,x,u,B⟩,J e E _ (l.trans L) C NN⟩
     ·rw[aj d]at J;exact J.elim
    |non=>exact J.elim|bl _=>exact J.elim|str _=>exact J.elim|tup _=>exact J.elim|ref _=>exact J.elim|clo _ _ _=>exact J.elim|xc _=>exact J.elim|fn _=>exact J.elim
   |non=>exact J.elim|bl _=>exact J.elim|str _=>exact J.elim|tup _=>exact J.elim|ref _=>exact J.elim|clo _ _ _=>exact J.elim|xc _=>exact J.elim|fn _=>exact J.elim
def CC {c P:Pos}{k}(n:Gl X "range")(N:X.mg "range"=none)(r:zx X xr a ma)(o:zx X xr b mb)
  (K:starEach [a,b,.UnaryOp .USub (.Constant (.int 1) k c) P] X.env=(false,eval a X.env)::starEach [b,.UnaryOp .USub (.Constant (.int 1) k c) P] X.env:=by rfl)
  (J:starEach [b,.UnaryOp .USub (.Constant (.int 1) k c) P] X.env=(false,eval b X.env)::starEach [.UnaryOp .USub (.Constant (.int 1) k c) P] X.env:=by rfl)
  (t:(backTo o7 (starEach [b,.UnaryOp .USub (.Constant (.int 1) k c) P] X.env)).any (·.1)=false:=by rfl):
  ku X xr tg (.Call (.Name "range" p) [a,b,.UnaryOp .USub (.Constant (.int 1) k c) P] [] o7) (Xs ma mb):=by
 simp only[zV]at*;exact PI.imp (DL n N (jk r (jk o (jk (MY N8 NJ) j3 (by rfl)) J) K) K t) λU H I ⟨T,A,Y,S,M,h⟩=>by
   refine tM.go S M (zS.mp h) λw A1 f H1 v K l D Q=>?_;refine tM.go D (M.mono l) (qw (zS.mp K) (λ_ _ z=>z) λ_ _ z=>z.mono l) λg A2 e E Z J L C q=>?_;cases w with
   |int i=>
    obtain rfl:=Q;cases g with
    |int j=>
     obtain rfl:=q;dsimp only at J
     by_cases d:(jl i&&jl j)=true
     ·rw[ai d]at J
      rw[ak]at d;obtain⟨y,x⟩:=QH d.1;obtain⟨u,B⟩:=QH d.2;exact⟨1,rfl,i,j,rfl,⟨y,x,u,B⟩,J e E _ (l.trans L) C fO⟩
     ·rw[aj d]at J;exact J.elim
    |_=>exact J.elim
   |_=>exact J.elim
def Kz (t:Gl X "zip")(T:X.mg "zip"=none)(x:zx X xr a ma)(u:zx X xr b mb)(i:jb a [b] X:=by rfl)(d:jb b [] X:=by rfl)(r:kX o7 [b] X:=by rfl):
  ku X xr (.Tuple oU kk oK) (.Call (.Name "zip" p) [a,b] [] o7) (gC ma mb):=by
 simp only[zV]at*;exact PI.imp (fY t T (jk x (jk u j3 d) i) i r) λσ H I ⟨Y,A,ρ,S,K,h⟩=>by
   refine tM.go S K (zS.mp h) λw A1 j H1 v U l B o=>?_;refine tM.go B (K.mono l) (qw (zS.mp U) (λ_ _ z=>z) λ_ _ z=>z.mono l) λg M c C v2 J L f Q=>?_;cases es:zK w M with
   |none=>rw[es]at J;exact J.elim|some us=>
    cases e:zK g M with
    |none=>rw[es,e]at J;exact J.elim|some vs=>
     rw[es,e]at J;have q:=o.mono L;obtain⟨p,N,rfl,n,E⟩:=Gy f q es;obtain⟨P,y,rfl,Z,D⟩:=Gy f Q e;exact⟨p,P,QV w,QV g,N,y,rfl,n,Z,J c C _ (l.trans L) f (fZ q Q)⟩
def gV {d:Nat}{M:Ev}(x:∀e s,X.xe e s->False)(C:zx X jO oN M)(g:gens[d+1]? =none):gR X oN gens sc o7 d (ql M):=by
 simp only[zV]at*;exact gc.imp (BD x C g) λD B H Q ⟨E,A,I,u,y,S,t,j,n,r,h⟩=>by
   refine tM.go S t (UE (zS.mp h)) λw K c J v p l o q=>?_;obtain⟨d1,N⟩:=l.off j n
   by_cases z:u.length<zT
   ·rw[ai z]at p
    have f:=r.length;refine⟨y,d1,?_,?_⟩
    ·rw[<- f]
     have:sizeLine=16777216:=sizeLine_eq
     unfold zT at z;lia
    ·exact p c _ B _ (l.toD.trans (yP.upd d1)) N (o.off d1 N) ⟨t.len,λi w e=>let ⟨v,a,b⟩:=t.get i w e;⟨v,a,(b.mono l).monoD (yP.upd d1)⟩⟩ jR
      (((r.mono l).monoD (yP.upd d1)).append (.one (q.monoD (yP.upd d1))))
   ·rw[aj z]at p;exact p.elim
def Nj {d:Nat}{U:Ei}{T:Tg}{M:Ev}{Z:Em}(o:∀e s,X.xe e s->False)(w:X.calm=true)(v:gens[d+1]? =some ⟨tg,o8,ifs,0⟩)(y:∀g',gens[d+2]? =some g'->g'.is_async=0)
  (hw:ku X jO tg o8 U)(t:wL X tg T)(u:gX X ifs M)(hm:gR X oN gens sc o7 (d+1) Z)(q:∀x,foldedSetIterable o8 X.env x=pure x:=by intro _;rfl):gR X oN gens sc o7 d (QW U T M Z):=by
 simp only[zV]at*;exact gc.imp (BP o w v y hw t u hm q) λD σ H Q ⟨φ,A,ρ,acc,Y,S,P,B,n,f,h⟩=>by refine⟨φ,A,ρ,S,P,qw (UE (zS.mp h)) (λj A1 h1 c H1 J l I i=>?_) λ_ _ z=>z⟩;obtain⟨d1,n1⟩:=l.off B n;exact ja.read i I (P.mono l) d1 n1 (f.mono l) (qw h1 (λp A2 h2 a K b zs L N E r C g=>h2 a K b zs (l.toD.trans L) N E r C g) λ_ _ z=>z)
def qt (h:zx X xr e m):gm X xr e (zZ m):=by
 simp only[zV]at*;exact PE.imp h λn H Q ⟨j,A,o,S,r,h⟩=>by
  refine tM.go S r (zS.mp h) λw i b g v f l c q=>?_;cases e:zK w i with
  |none=>rw[e]at f;exact f.elim|some p=>
   rw[e]at f;obtain⟨a,y,rfl,d,E⟩:=Gp c q e;exact f b g a y l c d E
def yg {q:jP}(h:Zx X xr e q):gm X xr e q:=by
 simp only[zV]at*;exact PE.imp h λo H Q ⟨d,A,f,S,g,h⟩=>
  ⟨d,A,f,S,g,qw h (λw t i a j D y l c p b n r=>i a j D y l c (.inl (qS.of b)) r) λ_ _ z=>z⟩
def AV (i:Nat)(f:X.N.Nodup)(p:zx X xr e m)(d:X.N[i]? =some x:=by rfl)(c:Loc X.env.scope x:=by first|exact Or.inl rfl|exact Or.inr rfl)
  (n:gM X x:=by first|exact .inl rfl|exact .inr rfl):yC X xr (.AugAssign (.Name x oP) .Add e o7) (Wx i m):=by
 simp only[zV]at*;exact PS.imp (de f d c p N5 n) λD C H ⟨B,A,j,S,r,h⟩=>by
   unfold Wx at h;cases E:j[i]? with
   |none=>rw[E]at h;exact h.elim|some o=>cases o with
    |none=>rw[E]at h;exact h.elim|some w=>cases w with
     |int x=>
      rw[E]at h;dsimp only at h;obtain⟨v,u,t⟩:=r.get i _ E;obtain rfl:=t;refine⟨_,u,?_⟩;refine tM.go S r (zS.mp h) λw I a z v b l g q=>?_;cases w with
      |int y=>
       obtain rfl:=q;exact⟨x,y,rfl,rfl,b a z _ l g ((r.mono l).set (w:=.int (x+y)) rfl)⟩
      |_=>exact b.elim
     |_=>rw[E]at h;exact h.elim
def CI {o i:Expr}{mo mi:Ev}(ho:zx X xr o mo)(hi:zx X xr i mi)(he:zx X xr e m)
  (ha:∀b I new,augStore i b I new=(do holding [new,b,I] (setItem b I new);release [new,b,I] [];pure .next):=by intros;rfl):yC X xr (.AugAssign (.Subscript o i oK) .Add e o7) (Xr mo mi m):=by
 simp only[zV]at*;exact PS.imp (B7 ho hi CQ he N5 set_list ha) λD σ H ⟨φ,A,ρ,S,re,h⟩=>by
   refine tM.go S re (zS.mp h) λU A1 P H1 v1 h1 j S1 q=>?_;refine tM.go S1 (re.mono j) (qw (zS.mp h1) (λ_ _ z=>z) λ_ _ z=>z.mono j) λw A2 N H2 v2 h2 g C q2=>?_;have l:=j.trans g;cases U with
   |ref n=>cases w with
    |int k=>
     obtain rfl:=q2;dsimp only at h2
     by_cases h0:0<=k
     ·rw[ai h0]at h2
      cases c:(A2[n]?:Option O) with
      |none=>rw[c]at h2;exact h2.elim|some ob=>cases ob with
       |lst ws=>
        rw[c]at h2;dsimp only at h2;obtain⟨p,vs,rfl,f1,g1,Z⟩:=C.lst (q.mono g) c;cases E:ws[k.toNat]? with
        |none=>rw[E]at h2;exact h2.elim|some Q=>cases Q with
         |int x=>
          rw[E]at h2;dsimp only at h2;obtain⟨v,hv,Y⟩:=Z.get E;obtain rfl:=Y;refine⟨p,vs,k,_,rfl,rfl,h0,g1,hv,?_⟩;refine tM.go C (re.mono l) (qw (zS.mp h2) (λ_ _ z=>z) λ_ _ z=>z.mono l) λT M f H3 v3 a B S3 q3=>?_;have L:=l.trans B;cases T with
          |int y=>
           obtain rfl:=q3;dsimp only at a;refine⟨x,y,rfl,rfl,?_⟩;refine ND (K:=X.K) f M H3 (.ref p) (.int k) (.int (x+y)) (.ref n) (.int k) (.int (x+y)) _ S3 ((q.mono g).mono B) rfl rfl ?_;cases r:gD (.ref n) (.int k) (.int (x+y)) M with
           |ok u J=>
            rw[r]at a;exactλd H4 t S4=>a d H4 σ (L.trans t) S4 (re.mono (L.trans t))
           |exc z J=>exact absurd r (Mo _ _ _ _ z J)|bad=>rw[r]at a;exact a.elim
          |_=>exact a.elim
         |_=>rw[E]at h2;exact h2.elim
       |_=>rw[c]at h2;exact h2.elim
     ·rw[aj h0]at h2;exact h2.elim
    |_=>exact h2.elim
   |_=>cases w<;>exact h2.elim
def zp (f:yC X xr st m1)(n:yI X xr oQ m2):yI X xr (st::oQ) (zG m1 m2):=by
 simp only[zV]at*;exact yJ.imp (Ba f n) λD p H ⟨g,A,i,S,j,h⟩=>by
   refine⟨g,A,i,S,j,qw (zS.mp h) (λfl o f=>?_) λ_ _ z=>z⟩;cases fl with|nx e=>exactλa d b l c r=>⟨a,o,e,c,r,qw f (λ_ _ z=>z.mono l) λ_ _ z=>z.mono l⟩|rt w=>exact f|bk e=>exact f|ct e=>exact f
def yX (f:zx X xr e m)(b:swapsWith e none o7.line X.env=pure false:=by rfl):yC X xr (.Expr e o7) (wz m):=by simp only[zV]at*;exact PS.imp (Ax f b) λD d H ⟨j,A,n,S,r,h⟩=>tM.go S r (zS.mp h) λw o a i v g l c q=>g a i d l c (r.mono l)
def je {mi:Ei}{tw:Tg}(hp:PassesOwn (model X.prog X.w) X.A X.env X.xe)(hc:X.calm=true)(hi:ku X xr tg o8 mi)(hg:wL X tg tw)(hb:yI X xr body m1)
  (hs:∀x,foldedSetIterable o8 X.env x=pure x:=by intro _;rfl):yC X xr (.For tg o8 body [] o7) (jA mi tw m1):=by
 simp only[zV]at*;exact PS.imp (dr hp hc hi hg hb hs) λD σ H ⟨φ,A,ρ,S,re,h⟩=>by
   refine⟨φ,A,ρ,S,re,qw (zS.mp h) (λj A1 h1 e H1 J P S1 jr=>?_) λ_ _ z=>z⟩;refine⟨λi f c I=>LO X.K xr j (turn tw m1) D e H1 f i c I,
    ⟨j.len,e,A1,ρ,.refl,S1,re.mono P,qw h1 (λ_ _ z=>z.mono P) λ_ _ z=>z.mono P⟩,?_⟩
   rintro i f M Y ⟨b,A2,q,u,U,t,h2⟩
   obtain⟨j1,j2⟩:=jr i b Y A2 ⟨u.ex,u.tp,u.fz⟩ U;cases E:j.at_ A2 i with
   |none=>cases f<;>(unfold jS at h2;rw[E]at h2;exact h2.elim)|some o=>
    cases o with
    |none=>
     left
     refine⟨j2 E,?_⟩;cases f<;>(unfold jS at h2;rw[E]at h2;exact h2 b Y M .refl U t)
    |some w=>
     right
     obtain⟨go,yl⟩:=j1 w E;cases f with
     |zero=>unfold jS at h2;rw[E]at h2;exact h2.elim|succ f=>
      unfold jS at h2;rw[E]at h2;refine⟨go,λc I=>LO X.K xr j (turn tw m1) D e H1 f (i+1) c I,λc I z=>⟨f,bz _,z⟩,λx H3 y=>?_⟩;obtain⟨L,T,q3⟩:=yl x H3 y;have v:=zS.mp h2;unfold turn at v;cases Q:tw w q with
      |none=>rw[Q]at v;exact v.elim|some p=>
       rw[Q]at v;refine⟨b,A2,q,w,p,T,t.mono L,q3,Q,λσ3 N=>?_⟩;refine⟨b,A2,p,T,N,qw v (λfl Z C=>?_) λ_ _ z=>z.mono L⟩;cases fl with|nx d=>exactλa B g l n r=>⟨a,Z,d,(u.trans L).trans l,n,r,qw C (λ_ _ z=>z.mono (L.trans l)) λ_ _ z=>z.mono (L.trans l)⟩|ct d=>exactλa B g l n r=>⟨a,Z,d,(u.trans L).trans l,n,r,qw C (λ_ _ z=>z.mono (L.trans l)) λ_ _ z=>z.mono (L.trans l)⟩|bk d=>exactλa B g l n r=>C a B g (L.trans l) n r|rt w4=>exactλa B v4 l n q4=>C a B v4 (L.trans l) n q4
def jW {n b:b9}(e:yz X xr c mc)(g:yI X xr n m1)(f:yI X xr b m2):yC X xr (.If c n b o7) (jQ mc m1 m2):=by
 simp only[zV]at*;exact PS.imp (c3 e g f) λD q H ⟨p,A,j,S,r,h⟩=>by
   refine tT.go S r (zS.mp h) λw o i=>?_;cases w with
   |bl k=>
    refine⟨k,rfl,λa t l d=>?_⟩;cases k with|true=>rw[ai rfl];exact⟨a,o,j,d,r.mono l,qw i (λ_ _ z=>z.mono l) λ_ _ z=>z.mono l⟩|false=>rw[aj aH];exact⟨a,o,j,d,r.mono l,qw i (λ_ _ z=>z.mono l) λ_ _ z=>z.mono l⟩
   |non=>cases i|int _=>cases i|str _=>cases i|tup _=>cases i|ref _=>cases i|clo _ _ _=>cases i|xc _=>cases i|fn _=>cases i
def zC:yI X xr [] zX:=by simp only[zV]at*;exact yJ.imp B4 λD b H ⟨a,A,c,S,r,h⟩=>h a H b .refl S r
def qk (c:zx X xr e m):yC X xr (.Return (some e) o7) (gH m):=by simp only[zV]at*;exact PS.imp (cY c) λD i H ⟨g,A,j,S,r,h⟩=>tM.go S r (zS.mp h) λw n a f v d l b q=>d a f v l b q
def g0 (i:Nat)(b:X.N.Nodup)(c:zx X xr e m)(a:X.N[i]? =some x:=by rfl)(h:Loc X.env.scope x:=by first|exact Or.inl rfl|exact Or.inr rfl)(H:swapsWith e (some (.Name x oP)) o7.line X.env=pure false:=by rfl)
  (f:gM X x:=by first|exact .inl rfl|exact .inr rfl):yC X xr (.Assign [.Name x oP] e o7) (qu i m):=by
 simp only[zV]at*;exact PS.imp (c8 b a h c H f) qu.read
def QG (i:Nat){q:Ei}{t:Tg}{M:Ev}{E:Em}{P a:Pos}(o:Nat)(C:bS)(j:X.N.Nodup)
  (e:X.calm=true)(S:gw X sc)(p:ZP X.N N sc o C=true)(r:ku X xr tg o8 q)
  (n:∀s H fp,wL (jz X N sc s H fp j5) tg t/\gX (jz X N sc s H fp j5) ifs M/\gR (jz X N sc s H fp j5) oN (⟨tg,o8,ifs,0⟩::gs) sc o7 0 E)
  (b:X.N[i]? =some x:=by rfl)(c:X.env.scope.names.lookup x=some .local:=by rfl)
  (w:swapsWith (.ListComp oN (⟨tg,o8,ifs,0⟩::gs) sc o7) (some (.Name x P)) a.line X.env=pure true:=by rfl)
  (f:∀g',gs[0]? =some g'->g'.is_async=0:=by intro _ h;cases h<;>rfl)
  (d:∀x,foldedSetIterable o8 X.env x=pure x:=by intro _;rfl):yC X xr (.Assign [.Name x P] (.ListComp oN (⟨tg,o8,ifs,0⟩::gs) sc o7) a) (qu i (jN (qy o C q t M E))):=by
 simp only[zV]at*;exact PS.imp (L2.ES (g:=tG X.K t) (ti:=tT X.K jO M) (tm:=tE X.K E) j b c w e S p f r n d) λD l H h=>qy.read l H _ (jN.read l H _ (qu.read D l H h))
def QI (h:Zf X xr e m):yz X xr e m:=by simp only[zV]at*;exact PW.pt h
def yt {g:W->W->Hx->R W}(h:wR X op g)(c:zx X xr a ma)(H:zx X xr b mb)(e:op≠.In:=by decide)(d:op≠.NotIn:=by decide):yz X xr (.Compare a [op] [b] o7) (zj g ma mb):=by simp only[zV]at*;exact let ⟨r,f,a2,A⟩:=h.ex;eS f a2 A c H (h.mks b e d)
def hh {o:CmpOp}{g l:W->W->Hx->R W}(h:wR X op g)(p:wR X o l)(e:zx X xr a ma)(d:zx X xr b mb)(H:zx X xr c mc)(n:lastMarks [op,o] [b,c]=false:=by with_unfolding_all rfl):
  yz X xr (.Compare a [op,o] [b,c] o7) (wQ g l ma mb mc):=by
 simp only[zV]at*;exact let ⟨r,q,a2,A⟩:=h.ex;let ⟨j,i,f,B⟩:=p.ex;BR q a2 A i f B e d H n
def gT (d:yz X xr a ma):yz X xr (.UnaryOp .Not a o7) (kj ma):=by
 simp only[zV]at*;exact PT.imp (cM d) λn H Q ⟨j,A,o,S,r,h⟩=>by
   refine tT.go S r (zS.mp h) λw p g=>?_;cases w with|bl k=>obtain⟨b,e,q⟩:=g;cases e;exact⟨k,rfl,λc i l f=>q c i l f⟩|non=>cases g|int _=>cases g|str _=>cases g|tup _=>cases g|ref _=>cases g|clo _ _ _=>cases g|xc _=>cases g|fn _=>cases g
def kN (h:zx X xr e m)(a:∀w,isTrue e X.env w=(do let v <- w;standAt e.pos;holding [v] (truthy v)):=by intro _;rfl):yz X xr e m:=by simp only[zV]at*;exact PT.imp (cI h a) λb H Q h=>h.toM
def wA:gX X [] (qa (.bl true)):=by
 simp only[zV]at*;exactλp s c H Q I ⟨a,A,d,S,r,h⟩=>Cu p s c H Q I (by obtain⟨b,e,q⟩:=h;cases e;exact q a H .refl S)
def UD (h:yz X jO c mc):gX X [c] mc:=by simp only[zV]at*;exact CJ h
def U4 {r:bW}(g:yz X xr a ma)(f:Zf X xr (.BoolOp .And (b::r) o7) mb):Zf X xr (.BoolOp .And (a::b::r) o7) (kR ma mb):=by
 simp only[zV]at*;exact PW.imp (pw_and g f) λp H Q ⟨o,A,t,S,j,h⟩=>by
   refine tT.go S j (zS.mp h) λw u i=>?_;cases w with
   |bl k=>
    refine⟨k,rfl,λc n l d=>?_⟩;cases k with|true=>rw[ai rfl];exact tT.mono d l j i|false=>rw[aj aH];obtain⟨b,e,q⟩:=i;cases e;exact q c n l d
   |non=>cases i|int _=>cases i|str _=>cases i|tup _=>cases i|ref _=>cases i|clo _ _ _=>cases i|xc _=>cases i|fn _=>cases i
def UA (h:yz X xr a ma):Zf X xr (.BoolOp .And [a] o7) ma:=by simp only[zV]at*;exact pw_and1 h
def K3 {r:bW}(g:yz X xr a ma)(f:Zf X xr (.BoolOp .Or (b::r) o7) mb):Zf X xr (.BoolOp .Or (a::b::r) o7) (ZA ma mb):=by
 simp only[zV]at*;exact PW.imp (pw_or g f) λp H Q ⟨o,A,t,S,j,h⟩=>by
   refine tT.go S j (zS.mp h) λw u i=>?_;cases w with
   |bl k=>
    refine⟨k,rfl,λc n l d=>?_⟩;cases k with|false=>rw[aj aH];exact tT.mono d l j i|true=>rw[ai rfl];obtain⟨b,e,q⟩:=i;cases e;exact q c n l d
   |non=>cases i|int _=>cases i|str _=>cases i|tup _=>cases i|ref _=>cases i|clo _ _ _=>cases i|xc _=>cases i|fn _=>cases i
def KL (h:yz X xr a ma):Zf X xr (.BoolOp .Or [a] o7) ma:=by simp only[zV]at*;exact pw_or1 h
def Sy {K:Frag}{u:Stmt}{ps:bU}{k:Nat}{m:Ex}(F:kL K x x u f fd)(L:mg x=some (.ref f))(S:kO N ps (qf u))
  (i:∀(kV D J:Value)(M:b8)(c ct:Value)(U:bP),U.length=ps.length->bindArgs (fnOf x x (gU u) (jV u) (qf u) .none kV D J M c ct) ⟨U,[]⟩=pure (ps.zip U))
  (a:∀(c:Value)(A:Around)(q:bY)(s:Shared)(H:Hp)(E:XK),jd k (A.deeper (envOfC x (qf u) s.heap.objs.size f c))->yI (yO kq P w K mg base N x (qf u) f c A q s H E).nox jO (jV u) m):
  qG P w K mg base (k+1) x ps.length (qm N.length m):=by
 simp only[zV]at*;refine⟨f,fd,ps,?_,L,F.kp,F.binds i⟩;refine F.ok S (λI H Q E h=>h.len) λc A q s H I Q E g ⟨p,z,C,v,j,r,h⟩=>⟨_,a c A q s H E g,?_⟩;refine⟨z,C,v.map some++List.replicate (N.length-v.length) none,j,RE.start r,?_⟩;have t:=zS.mp h;show R.post _ (FB K z H _) _;cases e:m (v.map some++List.replicate (N.length-v.length) none) C with
 |ok fl T=>
  rw[e]at t;cases fl with|rt w=>exact t|nx B=>exactλb o d l n _=>t b o .non l n rfl|bk B=>exact t.elim|ct B=>exact t.elim
 |exc y T=>
  rw[e]at t;exact t.elim
 |bad=>rw[e]at t;exact t.elim
def Nk (c:X.mg "abs"=none)(a:zx X xr e m)(h:Gl X "abs":=by rfl)(d:jb e [] X:=by rfl):zx X xr (.Call (.Name "abs" p) [e] [] o7) (yU Ss m):=by
 simp only[zV]at*;exact fw CA (λw A=>by unfold Ss;split;exact jY;exact jc) (λb A H x u Q S q p=>by
   cases u with|int i=>obtain rfl:=q;exact⟨i,rfl,p b H _ .refl S rfl⟩|_=>exact p.elim) c (by rfl) a h (by decide) (by decide) d (by rfl)
def gn (j:zx X xr a ma)(J:zx X xr b mb)(i:jb b [] X:=by rfl)
  (e:attributeBase a "append" X.env (eval a X.env)=eval a X.env:=by rfl)
  (w:((backTo oH (starEach [b] X.env)).all (λx=>!x.1)&&(backToKw oH (keywordEach [] X.env)).all (λx=>x.1.isSome)
   && decide ([b].length+([]:b0).length+(if ([]:b0).isEmpty then 0 else 1)<30))=true:=by rfl)(h:(oM.endLine==oH.line)=true:=by rfl):
  zx X xr (.Call (.Attribute a "append" oM) [b] [] oH) (yM wc ma mb):=by
 simp only[zV]at*;exact Xv PySem.F.slot_list_append PySem.F.type_list_append Oc DG (λC A H x y u v Q S g q p=>by
   unfold wc at p;cases u with
   |ref n=>
    dsimp only at p;cases E:A[n]? with
    |none=>rw[E]at p;exact p.elim|some o=>cases o with
     |lst t=>
      rw[E]at p;dsimp only at p
      by_cases c:t.length<zT
      ·rw[ai c]at p
       obtain⟨l,D,rfl,I,B,r⟩:=S.lst g E;refine⟨l,D,y,rfl,rfl,B,?_,?_⟩
       ·rw[<- r.length]
        have:sizeLine=16777216:=sizeLine_eq
        unfold zT at c;lia
       ·have L:Le X.K C H C (upd H l (.lst (D++[y]))):=Le.upd I (λM z=>by rw[B]at z;cases z) (λ_ _ z=>by rw[B]at z;cases z)
        obtain⟨f,d⟩:=S.write (o:=.lst t) (o':=.lst (t++[v])) E rfl rfl I ⟨_,jR,(r.mono L).append (.one (q.mono L))⟩;exact p _ _ _ f d rfl
      ·rw[aj c]at p;exact p.elim
     |_=>rw[E]at p;exact p.elim
   |_=>exact p.elim) j J i e w h
def Up (c:X.mg "int"=none)(a:zx X xr e m)(h:Gl X "int":=by rfl)(d:jb e [] X:=by rfl):zx X xr (.Call (.Name "int" p) [e] [] o7) (yU Lj m):=by
 simp only[zV]at*;exact fx De (λw A=>by unfold Lj;split;exact jY;exact jY;exact jc) (λb A H x u Q S q p=>by
   cases u with|int i=>obtain rfl:=q;exact .inl ⟨i,rfl,p b H _ .refl S rfl⟩|bl k=>obtain rfl:=q;exact .inr ⟨k,rfl,p b H _ .refl S rfl⟩|_=>exact p.elim) c (by rfl) a h (by decide) (by decide) d (by rfl)
def Bz (e:X.calm=true)(w:X.mg "max"=none)(o:zx X xr a ma)(n:zx X xr b mb)(l:Gl X "max":=by rfl)(B:jb a [b] X:=by rfl)(z:jb b [] X:=by rfl)(h:kX o7 [b] X:=by rfl):
  zx X xr (.Call (.Name "max" p) [a,b] [] o7) (zj Sr ma mb):=by
 simp only[zV]at*;exact Mt (DO e) Qh (λt A H x y u v Q S d c p=>by
   obtain⟨i,j,r,E,q⟩:=Qe (K:=X.K) (f:=λi j=>.int (if j > i then j else i)) (g:=λi j=>.int (if j > i then j else i)) (λ_ _ _ _=>rfl) t A H x y u v Q S d c p;subst r;subst E;exact⟨i,j,rfl,q⟩) w (by rfl) o n l (by decide) (by decide) B z h
def Cc (D:zx X xr a ma)(Y:zx X xr b mb)(C:jb b [] X:=by rfl)
  (e:attributeBase a "pop" X.env (eval a X.env)=eval a X.env:=by rfl)
  (c:((backTo oH (starEach [b] X.env)).all (λx=>!x.1)&&(backToKw oH (keywordEach [] X.env)).all (λx=>x.1.isSome)
   && decide ([b].length+([]:b0).length+(if ([]:b0).isEmpty then 0 else 1)<30))=true:=by rfl)(h:(oM.endLine==oH.line)=true:=by rfl):
  zx X xr (.Call (.Attribute a "pop" oM) [b] [] oH) (yM ZN ma mb):=by
 simp only[zV]at*;exact Xv PySem.F.slot_list_pop PySem.F.type_list_pop BW Co (λN A H x y u v Q S B t p=>by
   unfold ZN at p;cases u with
   |ref n=>cases v with
    |int i=>
     obtain rfl:=t;dsimp only at p;cases E:A[n]? with
     |none=>rw[E]at p;exact p.elim|some o=>cases o with
      |lst L=>
       rw[E]at p;dsimp only at p
       by_cases d:jl i=true
       ·rw[ai d]at p
        obtain⟨J,I⟩:=QH d;cases g:seqIndex? i L.length with
        |none=>rw[g]at p;exact p.elim|some k=>
         rw[g]at p;dsimp only at p;cases f:L[k]? with
         |none=>rw[f]at p;exact p.elim|some w=>
          rw[f]at p;obtain⟨l,P,rfl,T,M,r⟩:=S.lst B E;obtain⟨y,h1,Z⟩:=r.get f;have U:Le X.K N H N (upd H l (.lst (P.eraseIdx k))):=Le.upd T (λxs z=>by rw[M]at z;cases z) (λ_ _ z=>by rw[M]at z;cases z)
          obtain⟨j,q⟩:=S.write (o:=.lst L) (o':=.lst (L.eraseIdx k)) E rfl rfl T ⟨_,jR,(r.erase k).mono U⟩;exact⟨l,P,i,k,y,rfl,rfl,M,by lia,by lia,by rw[<- r.length];exact g,h1,p _ _ _ j q (Z.mono j)⟩
       ·rw[aj d]at p;exact p.elim
      |_=>rw[E]at p;exact p.elim
    |_=>exact p.elim
   |_=>cases v<;>exact p.elim) D Y C e c h
def KD (H:zx X xr a ma)(h:zx X xr b mb):zx X xr (.BinOp a .Pow b o7) (zj YI ma mb):=by simp only[zV]at*;exact Zl dA Wb (KO Nr λ_ _ _ _=>rfl) H h
def Ym {x j}:zx X xr (.Constant (.str x) j o7) (qa (.str x)):=by simp only[zV]at*;exact PE.imp cH λb H Q ⟨a,A,c,S,r,h⟩=>h a H _ .refl S rfl
def Ni (H:zx X xr a ma)(h:zx X xr b mb):zx X xr (.BinOp a .BitXor b o7) (zj eY ma mb):=by simp only[zV]at*;exact Zl dE Qh (Qe λ_ _ _ _=>rfl) H h
def BQ {q:jP}(u:X.mg "list"=none)(d:gm X xr e q)(g:Gl X "list":=by rfl)(j:jb e [] X:=by rfl):
  zx X xr (.Call (.Name "list" p) [e] [] o7) (jN q):=by
 simp only[zV]at*;exact PE.imp (Kk FP g u (by rfl) (jk d j3 j) (by decide) (by decide) j (by rfl)) λx H Q ⟨n,A,o,S,t,h⟩=>by refine⟨n,A,o,S,t,qw (zS.mp h) (λB D v b C a y L i z r=>?_) λ_ _ z=>z⟩;refine⟨a,y,rfl,z,λl c=>?_⟩;obtain⟨w,a2,f⟩:=QR i c r;exact v _ _ _ (L.trans w) a2 f
def GN {o i:Expr}{M c:Ev}(d:zx X xr e m)(H:zx X xr o M)(a:zx X xr i c)
  (h:swapsWithSole [.Subscript o i oK] e o7.line X.env=pure false:=by rfl)(w:swappedStores [.Subscript o i oK] e X.env=pure none:=by rfl)
  (f:(assignEach [.Subscript o i oK] X.env).map (·.2)=[assign (.Subscript o i oK) X.env]:=by rfl)
  (b:∀v,assign (.Subscript o i oK) X.env v=(do
   let ov <- holding [v] (eval o X.env)
   let iv <- holding [v,ov] (eval i X.env)
   standAt oK
   holding [v,ov,iv] (setItem ov iv v)
   release [v,ov,iv] []):=by intro _;rfl):yC X xr (.Assign [.Subscript o i oK] e o7) (Yq gD m M c):=by
 simp only[zV]at*;exact CV set_list Mo ND d H a h w f b
def Uq (f:Nat)(C:PassesOwn (model X.prog X.w) X.A X.env X.xe)(E:yz X xr c mc)(I:yI X xr body m1):yC X xr (.While c body [] o7) (eV f mc m1):=by
 simp only[zV]at*;exact PS.imp (BM C E I) λD σ H ⟨Y,A,ρ,S,re,h⟩=>by
   refine⟨λf i e=>∃a U d,Le X.K Y H a e/\zL X.K a U e/\RE X.K a e d i/\(wK mc m1 f d U).post (FB X.K a e D) (EB X.K a e xr),⟨f,Y,A,ρ,.refl,S,re,h⟩,?_⟩
   rintro f v T ⟨a,U,d,x,J,o,Z⟩
   cases f with
   |zero=>exact Z.elim|succ f=>
    unfold wK at Z;refine tT.go J o (zS.mp Z) λw N g=>?_;cases w with
    |bl k=>
     refine⟨k,rfl,λq M l y=>?_⟩;cases k with
     |true=>
      rw[ai rfl];refine⟨λi e=>∃a U d,Le X.K Y H a e/\zL X.K a U e/\RE X.K a e d i/\(wK mc m1 f d U).post (FB X.K a e D) (EB X.K a e xr),λi e z=>⟨f,bz _,z⟩,?_⟩;refine⟨q,N,d,y,o.mono l,qw (zS.mp g) (λfl B u=>?_) λ_ _ z=>z.mono l⟩;cases fl with|nx j=>exactλb t n L p r=>⟨b,B,j,(x.trans l).trans L,p,r,qw u (λ_ _ z=>z.mono (l.trans L)) λ_ _ z=>z.mono (l.trans L)⟩|ct j=>exactλb t n L p r=>⟨b,B,j,(x.trans l).trans L,p,r,qw u (λ_ _ z=>z.mono (l.trans L)) λ_ _ z=>z.mono (l.trans L)⟩|bk j=>exactλb t n L p r=>u b t n (l.trans L) p r|rt P=>exactλb t v4 L p Q=>u b t v4 (l.trans L) p Q
     |false=>
      rw[aj aH];exact g q M v l y (o.mono l)
    |non=>cases g|int _=>cases g|str _=>cases g|tup _=>cases g|ref _=>cases g|clo _ _ _=>cases g|xc _=>cases g|fn _=>cases g
end
end Mi
variable {fN:(PySem.Obj->PySem.Addr->PySem.Obj->List L2.V->Prop)->Mi.Fn}{mr:Mi.Ea}{mi:Mi.Ei}{em:Mi.Em}{ρ:Mi.En}{me:Mi.Ev}{A A1 B:Mi.Hx}{ws:List Mi.W}{x5:Option Mi.W}{tw:Mi.Tg}{g:Mi.W->Mi.W->Mi.Hx->Mi.R Mi.W}{xr:Mi.XR}{q:Mi.jP}{j:Mi.jn}
set_option maxHeartbeats 4000000
namespace Mi
open PySem L2
section
variable {ρ1:En}{A2:Hx}{w x y:W}{m ma mb mc:Ev}{m1 m2:Ex}{f:Fn}
def zh (h:ρ[i]? =some (some w)):zM i ρ A=.ok w A:=by unfold zM;rw[h]
def zP:qa w ρ A=.ok w A:=rfl
def zA (H:ma ρ A=.ok x A1)(h:mb ρ A1=.ok y A2):zj g ma mb ρ A=g x y A2:=by unfold zj;rw[H,zI,h,zI]
def NZ {g:W->Hx->R W}(h:ma ρ A=.ok x A1):yU g ma ρ A=g x A1:=by unfold yU;rw[h,zI]
def kP {k:Bool}(h:ma ρ A=.ok (.bl k) A1):kj ma ρ A=.ok (.bl (!k)) A1:=by unfold kj;rw[h,zI]
def QQ (h:ma ρ A=.ok (.bl true) A1):kR ma mb ρ A=mb ρ A1:=by unfold kR;rw[h,zI]
def Ys (h:ma ρ A=.ok (.bl false) A1):kR ma mb ρ A=.ok (.bl false) A1:=by unfold kR;rw[h,zI]
def Ld (h:ma ρ A=.ok (.bl true) A1):ZA ma mb ρ A=.ok (.bl true) A1:=by unfold ZA;rw[h,zI]
def K6 (h:ma ρ A=.ok (.bl false) A1):ZA ma mb ρ A=mb ρ A1:=by unfold ZA;rw[h,zI]
def zR {a:Ea}(h:a ρ A=.ok ws A1):zU f a ρ A=f ws A1:=by unfold zU;rw[h,zI]
def zJ:zu ρ A=.ok [] A:=rfl
def zr {r:Ea}(H:ma ρ A=.ok x A1)(h:r ρ A1=.ok ws A2):zi ma r ρ A=.ok (x::ws) A2:=by unfold zi;rw[H,zI,h,zI]
def wF {a:Ea}(h:a ρ A=.ok ws A1):qB a ρ A=.ok (.tup ws) A1:=by unfold qB;rw[h,zI]
def jI {a:Ea}(h:a ρ A=.ok ws A1):qL a ρ A=.ok (.ref A1.length) (A1++[.lst ws]):=by unfold qL;rw[h,zI]
def zy (h:m1 ρ A=.ok (.nx ρ1) A1):zG m1 m2 ρ A=m2 ρ1 A1:=by unfold zG;rw[h,zI]
def qp (h:m1 ρ A=.ok (.rt w) A1):zG m1 m2 ρ A=.ok (.rt w) A1:=by unfold zG;rw[h,zI]
def qx:zX ρ A=.ok (.nx ρ) A:=rfl
def qg (h:m ρ A=.ok w A1):qu i m ρ A=.ok (.nx (ρ.set i (some w))) A1:=by unfold qu;rw[h,zI]
def Zm (h:m ρ A=.ok w A1):wz m ρ A=.ok (.nx ρ) A1:=by unfold wz;rw[h,zI]
def qI (h:m ρ A=.ok w A1):gH m ρ A=.ok (.rt w) A1:=by unfold gH;rw[h,zI]
def kh (h:mc ρ A=.ok (.bl true) A1):jQ mc m1 m2 ρ A=m1 ρ A1:=by unfold jQ;rw[h,zI]
def jX (h:mc ρ A=.ok (.bl false) A1):jQ mc m1 m2 ρ A=m2 ρ A1:=by unfold jQ;rw[h,zI]
def jo (h:mi ρ A=.ok j A1):jA mi tw m1 ρ A=jS j (turn tw m1) j.len 0 ρ A1:=by unfold jA;rw[h,zI]
def jB (h:tw w ρ=some ρ1):turn tw m1 w ρ A=m1 ρ1 A:=by unfold turn;rw[h]
def Gr {S:W->Ex}(h:j.at_ A i=some none):jS j S n i ρ A=.ok (.nx ρ) A:=by
 cases n with|zero=>unfold jS;rw[h]|succ n=>unfold jS;rw[h]
def Jh {S:W->Ex}(h:j.at_ A i=some (some w))(H:S w ρ A=.ok (.nx ρ1) A1):jS j S (n+1) i ρ A=jS j S n (i+1) ρ1 A1:=by rw[jS,h];dsimp only;rw[H,zI]
def yG {k:Int}(h:m ρ A=.ok (.int k) A1)(H:jl k=true):jM m ρ A=.ok (jG 0 k.toNat) A1:=by unfold jM;rw[h,zI];dsimp only;rw[ai H]
def j8 {l:Int}{k:Nat}(h:i<k):(jG l k).at_ A i=some (some (.int (l+i))):=by unfold jG;dsimp only;rw[ai h]
def j7 {l:Int}{k:Nat}(h:¬i<k):(jG l k).at_ A i=some none:=by unfold jG;dsimp only;rw[aj h]
def qP (h:m1 (ws.map some++List.replicate (n-ws.length) none) A=.ok (.rt w) A1):qm n m1 ws A=.ok w A1:=by unfold qm;rw[h];rfl
def wH {w:W}(n:qN ws=true)(H:w.nr=true)(h:f ws []=.ok w A1):iso f ws A=.ok w A:=by
 unfold iso;rw[ai n,h];cases w with|ref k=>cases H|_=>dsimp only;rw[ai H]
end
end Mi
set_option maxHeartbeats 4000000
namespace Mi
open PySem L2
def Bj {p:Ev}{c:En}{N:Nat}{f g:Nat->W}{keep:Nat->Bool}(t:∀i,i<N->j.at_ A i=some (some (f i)))(d:j.at_ A N=some none)
  (b:∀i,i<N->p (some (f i)::c) A=.ok (.bl (keep i)) A)(q:∀i,i<N->keep i=true->me (some (f i)::c) A=.ok (g i) A):
  ∀(n i:Nat)(x:Option W)(o:List W),i+n=N->o.length+n<=zT->∃y,ja j (zN 0) p (ql me) n i (x::c) o A=.ok (y::c,o++((List.range' i n).filter keep).map g) A:=by
 intro n
 induction n with
 |zero=>
  intro i x o h _
  have:i=N:=by lia
  subst this;refine⟨x,?_⟩;unfold ja;rw[d];simp
 |succ n I=>
  intro i x o h l;have H:i<N:=by lia
  rw[ja,t i H];dsimp only[zN,List.set];rw[b i H,zI];rw[range'_succ];cases a:keep i with
  |true=>
   dsimp only;obtain⟨y,e⟩:=I (i+1) (some (f i)) (o++[g i]) (by lia) (by rw[ay,aW];lia)
   refine⟨y,?_⟩;have E:ql me (some (f i)::c) o A=.ok (some (f i)::c,o++[g i]) A:=by unfold ql;rw[q i H a,zI,ai (by lia)]
   rw[E,zI];dsimp only;rw[e,List.filter_cons_of_pos a,aQ,aR]
   rfl
  |false=>
   dsimp only;obtain⟨y,e⟩:=I (i+1) (some (f i)) o (by lia) (by lia)
   exact⟨y,by rw[e,List.filter_cons_of_neg (by rw[a];exact aH)]⟩
def Pr {ifs:Ev}{N:Nat}{item g:Nat->W}{keep:Nat->Bool}(f:mi ρ A=.ok j A)(a:j.len=N)(d:N<=zT)
  (H:∀i,i<N->j.at_ A i=some (some (item i)))(h:j.at_ A N=some none)(b:∀i,i<N->ifs (some (item i)::cap.map λi=>(ρ[i]?).join) A=.ok (.bl (keep i)) A)
  (l:∀i,i<N->keep i=true->me (some (item i)::cap.map λi=>(ρ[i]?).join) A=.ok (g i) A):
  qy 1 cap mi (zN 0) ifs (ql me) ρ A=.ok (((List.range N).filter keep).map g) A:=by
 obtain⟨y,e⟩:=Bj H h b l N 0 none [] (zero_add N) (by simpa using d)
 unfold qy;rw[f,zI,a];have c:Qj 1 cap ρ=none::cap.map λi=>(ρ[i]?).join:=rfl;rw[c,e,bK,<- range_eq_range']
 rfl
def gr {N:Nat}{item g:Nat->W}(d:mi ρ A=.ok j A)(a:j.len=N)(c:N<=zT)
  (t:∀i,i<N->j.at_ A i=some (some (item i)))(H:j.at_ A N=some none)(e:∀i,i<N->me (some (item i)::cap.map λi=>(ρ[i]?).join) A=.ok (g i) A):
  qy 1 cap mi (zN 0) (qa (.bl true)) (ql me) ρ A=.ok ((List.range N).map g) A:=by
 have h:=Pr (ifs:=qa (.bl true)) (keep:=λ_=>true) d a c t H (λ_ _=>rfl) λi b _=>e i b;have f:(List.range N).filter (λ_=>true)=List.range N:=List.filter_eq_self.mpr λ_ _=>rfl;rw[f]at h;exact h
def jF {g:List W->Hx->R W}(h:q ρ A=.ok ws A1):mQ g q ρ A=g ws A1:=by unfold mQ;rw[h,zI]
def yW (h:q ρ A=.ok ws A1):jN q ρ A=.ok (.ref A1.length) (A1++[.lst ws]):=by unfold jN;rw[h,zI]
def yr {m:Ev}{w:W}(h:m ρ A=.ok w A1)(H:zK w A1=some ws):zZ m ρ A=.ok ws A1:=by unfold zZ;rw[h,zI,H]
open PySem PySem.Spec PyProof.Rows L2
inductive zfQ (H:Hp)(h g:Heap)(e:Addr)(vs:Array Value):Prop
 |mk (T:Addr) (oT:Obj) (ts:Array Value) (h1:vs[1]? =some (.ref T)) (ne:T≠e) (ng:g.get? T=none) (nH:H T=none) (hT:h.get? T=some oT) (hd:oT.data=.fields ts) (h3:ts[3]? =some .none)
inductive gB (H:Hp)(h g:Heap)(e:Addr)(C:Value):Prop
 |mk (ng:g.get? e=none) (nH:H e=none) (oe:Obj) (vs:Array Value) (a0:Value) (he:h.get? e=some oe) (hc:oe.cls=C) (hd:oe.data=.fields vs) (h0:vs[0]? =some a0) (h1:vs[1]? =some .none∨zfQ H h g e vs)
inductive Tr (h:Heap)(e:Addr):Prop
 |mk (oe:Obj) (vs:Array Value) (T:Addr) (he:h.get? e=some oe) (hd:oe.data=.fields vs) (h1:vs[1]? =some (.ref T))
section
variable {A:Around}{s:Shared}{outer:bY}{L e:Addr}{C:Value}{g:Heap}
theorem frames_at {B:Heap}:∀{l:bY},s.heap.FunFrames base l->(∀b∈qE l,B.get? b=none)->s.heap.FunFrames B l
 |[],_,_=>trivial|e::r,⟨c,⟨L,o,hf,hn,a,hd⟩,H⟩,h=>⟨c,⟨L,o,hf,h L (by unfold qE;rw[bb,hf];exact aF ..),a,hd⟩,frames_at H λb d=>h b (by unfold qE;rw[bb,hf];exact aA _ d)⟩
def NL {Q:Unit->Shared->Prop}(y:A.frames=some (env::outer))(hf:env.frame=some L)(I:s.heap.FunFrames base (env::outer))(x:gB H s.heap g e C)
  (tr:∀b u,H b=some u->∃o,s.heap.get? b=some o)(th:∀b o,g.get? b=some o->∃o',s.heap.get? b=some o')
  (hQ:∀h',(∀b o,s.heap.get? b=some o->b∉qE (env::outer)->((∃o',g.get? b=some o')∨∃u,H b=some u)->h'.get? b=some o)->(∀b o,s.heap.get? b=some o->b∈qE (env::outer)->∃Y,h'.get? b=some { o with slots:=Y })->
   gB H h' g e C->Tr h' e->Q () { s with heap:=h' }):wpAny M A (leaving env (.ref e)) Q E s:=by
 obtain⟨K,S,oe,vs,a0,he,hc,hd,h0,h1⟩:=x;have fin:∀(d:bQ),(∀b∈qE (env::outer),b∈d)->(∀b∈d,b∉qE (env::outer)->g.get? b=none/\H b=none)->∀h',Heap.LeftW (hideAll s.heap d) (env::outer) e C a0 s.heap h'->Q () { s with heap:=h' }:=by
  intro d hi1 w h' ⟨st,ff,r,us⟩;refine hQ h' (λb o h nb hx=>?_) (λb o h mb=>?_) ?_ (by obtain⟨i,v,T,D,t,j,_,l,p,_⟩:=r;exact⟨i,v,T,j,l,p⟩)
  ·refine st b o (bH d h λhm=>?_)
   obtain⟨z1,z2⟩:=w b hm nb;rcases hx with ⟨o',q⟩|⟨u,q⟩
   ·rw[z1]at q;cases q
   ·rw[z2]at q;cases q
  ·obtain⟨_,o',a,f⟩:=I.mem mb
   rw[h]at a;cases a;exact us b o h f
  ·obtain⟨i,v,T,D,t,j,⟨N,X⟩,l,p,B,n,hT,c,U⟩:=r
   have nT:T∉qE (env::outer):=λhm=>by obtain⟨_,o',a,f⟩:=I.mem hm;obtain⟨Y,z⟩:=us T o' a f;rw[hT]at z;cases z;exact f t c
   have both:g.get? T=none/\H T=none:=by
    cases q:s.heap.get? T with
    |some o=>
     by_cases hm:T∈d
     ·exact w T hm nT
     ·rw[bH d q hm]at B;cases B
    |none=>
     constructor
     ·cases z:g.get? T with|none=>rfl|some o=>obtain⟨o',Z⟩:=th T o z;rw[q]at Z;cases Z
     ·cases z:H T with|none=>rfl|some u=>obtain⟨o',Z⟩:=tr T u z;rw[q]at Z;cases Z
   exact⟨K,S,i,v,a0,j,N,l,X,.inr ⟨T,D,t,p,n,both.1,both.2,hT,c,U⟩⟩
 have stay:∀d:bQ,(hideAll s.heap d).StaysIn s.heap:=λd b o q=>of_hideAll d q;rcases h1 with h1|⟨T,D,t,h1,n,J,P,hT,c,U⟩
 ·have hn:∀b∈e::qE (env::outer),(hideAll s.heap (e::qE (env::outer))).get? b=none:=λb h=>hideAll_none _ h
  refine wpAny_leaving_firstW (base:=hideAll s.heap (e::qE (env::outer))) y (frames_at I λb h=>hn b (aA _ h)) hf he (stay _) (hn e (aF ..)) hd h1 h0 ?_;rw[hc];refine fin _ (λb h=>aA _ h) λb h nb=>?_;rcases cm.mp h with rfl|h
  ·exact⟨K,S⟩
  ·exact absurd h nb
 ·have hn:∀b∈e::T::qE (env::outer),(hideAll s.heap (e::T::qE (env::outer))).get? b=none:=λb h=>hideAll_none _ h
  refine wpAny_leaving_nextW (base:=hideAll s.heap (e::T::qE (env::outer))) y (frames_at I λb h=>hn b (aA _ (aA _ h))) hf
   ⟨oe,vs,T,D,t,he,⟨hc,h0⟩,hd,h1,hn T (aA _ (aF ..)),n,hT,c,U⟩ (stay _) (hn e (aF ..)) ?_
  refine fin _ (λb h=>aA _ (aA _ h)) λb h nb=>?_;rcases cm.mp h with rfl|h
  ·exact⟨K,S⟩
  ·rcases cm.mp h with rfl|h
   ·exact⟨J,P⟩
   ·exact absurd h nb
end
inductive MX (P:Program)(w:World)(outer:bY)(H:Hp)(s:Shared)(E:XK)(e:Value)(s':Shared):Prop
 |mk (ea C:Addr) (H':Hp) (he:e=.ref ea) (os:s'.os=s.os) (b:AllBare s'.gens) (un:Un (qE outer) [] H H' s.heap s'.heap) (hk:jf P w H' s'.heap) (ly:gB H' s'.heap s.heap ea (.ref C)) (tr:Tr s'.heap ea) (q:E (.ref C) none H')
def wu (P:Program)(w:World):Zb:=λo H s E e S=>MX P w o H s E e S
def _root_.L2.qX.obj (x:qX P w H h a o):∃ob,h.get? a=some ob:=by
 cases o with|lst X=>obtain⟨_,_,_,_,e⟩:=x;exact⟨_,e⟩|tup X=>obtain⟨_,_,_,o,e,_⟩:=x;exact⟨o,e⟩|dK K=>obtain⟨_,_,_,_,o,_,_,e,_⟩:=x;exact⟨o,e⟩|dT K=>obtain⟨_,_,_,_,o,_,_,e,_⟩:=x;exact⟨o,e⟩|set S n=>obtain⟨o,_,_,_,e,_⟩:=x;exact⟨o,e⟩|ins C d fs=>obtain⟨_,_,_,e,_⟩:=x;exact⟨_,e⟩|own y=>exact x|xd fs=>obtain⟨_,⟨o,_,_,e,_⟩,_⟩:=x;exact⟨o,e⟩|rng l i=>obtain⟨_,_,_,e⟩:=x;exact⟨_,e⟩|frz ob u=>exact⟨ob,x.1⟩|tbl ps=>exact⟨_,(show h.get? a=some _ from x)⟩|met f y=>exact⟨_,(show h.get? a=some _ from x)⟩|ext b=>exact x.2.1
def Dx {K:Frag}{D:Value}{A:Around}{B:bY}{s:Shared}{E:XK}
  {h:Hp}{a C:Addr}(I:Inv (yO (wu P w) P w K mg base N qual scope f D A B s H E) o6 σ h s')(x:gB h s'.heap s.heap a (.ref C))(y:E (.ref C) none h):
  (yO (wu P w) P w K mg base N qual scope f D A B s H E).xe (.ref a) s':=by
 have bs:Un (qE B) [] H h s.heap s'.heap:=I.base;have T:∀b∈qE (envOfC qual scope s.heap.objs.size f D::B),h b=none:=I.stkFree;have p:s.heap.get? s.heap.objs.size=none:=Heap.get?_none_of_le (ao _);have g:(envOfC qual scope s.heap.objs.size f D).frame=some s.heap.objs.size:=rfl;have mem:∀b,b∈qE (envOfC qual scope s.heap.objs.size f D::B)↔b=s.heap.objs.size∨b∈qE B:=λb=>by unfold qE;rw[bb,g];exact mem_cons
 show wpAny (model P w) (A.deeper (envOfC qual scope s.heap.objs.size f D)) (leaving (envOfC qual scope s.heap.objs.size f D) (.ref a)) _ _ s';refine NL (base:=base) (L:=s.heap.objs.size) I.ok.frames rfl I.stack x (λb u e=>(I.hok b u e).obj) (λb o e=>bs.there b o e (by simp)) λh' M Z X t=>?_
 have r:∀b u,h b=some u->b∉qE (envOfC qual scope s.heap.objs.size f D::B):=λb u e J=>by rw[T b J]at e;cases e
 refine⟨a,C,h,rfl,I.os,I.bare,⟨λb o e n nb _=>?_,λb o e n Y _=>?_,λb o e n d=>bs.free b o e n d,λb o e d=>?_,bs.tups,bs.frzs,bs.tbls⟩,λb u e=>?_,X,t,y⟩
 ·have i:b≠s.heap.objs.size:=λz=>by rw[z,p]at e;cases e
  exact M b o (bs.keep b o e n nb (by simp)) (λJ=>(mem b).mp J |>.elim i nb) (.inl ⟨o,e⟩)
 ·obtain⟨l,q⟩:=bs.slot b o e n Y (by simp)
  obtain⟨S,Q⟩:=Z b _ q ((mem b).mpr (.inr Y));exact⟨S,Q⟩
 ·obtain⟨U,q⟩:=bs.there b o e d
  by_cases J:b∈qE (envOfC qual scope s.heap.objs.size f D::B)
  ·obtain⟨l,z⟩:=Z b U q J;exact⟨_,z⟩
  ·exact⟨U,M b U q J (.inl ⟨o,e⟩)⟩
 ·refine(I.hok b u e).stay (λc v j q=>?_) (λ_ q=>q) λ_ _ q=>q
  rcases j with z|z
  ·rw[z]at q ⊢;exact M b v q (r b u e) (.inr ⟨u,e⟩)
  ·exact M c v q (r c _ z) (.inr ⟨_,z⟩)
def PZ {s:Shared}{E:XK}{e:Value}(I:Inv X o6 σ H s)(h:wu X.prog X.w X.stack H s E e s')(g:Heap)(r:∀b o,g.get? b=some o->∃o',s.heap.get? b=some o'):
  ∃a C c,e=.ref a/\Inv X o6 σ c s'/\gB c s'.heap g a (.ref C)/\Tr s'.heap a/\E (.ref C) none c:=by
 obtain⟨a,C,c,rfl,Z,S,un,U,x,tr,u⟩:=h;obtain⟨p,v,d,t,f⟩:=s';obtain rfl:f=s.os:=Z;refine⟨a,C,c,rfl,I.call (h':=p) (g':=v) (d':=d) (t':=t) (ch:=[]) un U S (λb z=>absurd z (by simp)),?_,tr,u⟩
 have up:∀b,s.heap.get? b=none->g.get? b=none:=λb n=>by
  cases z:g.get? b with|none=>rfl|some o=>obtain⟨o',q⟩:=r b o z;rw[n]at q;cases q
 obtain⟨a1,a2,j,Y,Q,P,N,M,L,B⟩:=x;refine⟨up a a1,a2,j,Y,Q,P,N,M,L,?_⟩;rcases B with B|⟨T,l,i,c1,c2,K,J,D,A,y⟩
 ·exact .inl B
 ·exact .inr ⟨T,l,i,c1,c2,up T K,J,D,A,y⟩
def yT (K:Frag)(E:XK):XR:=λx H=>∀C:Addr,ki K x (.ref C)->E (.ref C) none H
inductive Vh (K:Frag)(n:Nat)(f:Fn)(vs:List V)(H:Hp)(Q:VK)(E:XK):Prop
 |mk (len:vs.length=n) (φ:bQ) (A:Hx) (ws:List W) (S:zL K φ A H) (r:zE K φ H ws vs) (q:(f ws A).post (PB K φ H Q) (EB K φ H (yT K E)))
def Vh.len {K:Frag}{f:Fn}{Q:VK}{E:XK}(h:Vh K n f vs H Q E):vs.length=n:=by cases h;assumption
inductive ym (P:Program)(w:World)(K:Frag)(mg:bX)(base:Heap)(k:Nat)(x:Str)(n:Nat)(f:Fn):Prop
 |mk (fa:Addr) (fd:FuncData) (ps:bU) (F:yh P w K mg base (wu P w) k fa fd ps (Vh K n f)) (at_:mg x=some (.ref fa)) (kp:keepIn K (.ref fa)=true) (bi:Binds K fd ps [])
structure wm (X:Cx)(g:Heap)(xr:XR):Prop where
 th:∀o6 σ H s,Inv X o6 σ H s->∀b o,g.get? b=some o->∃o',s.heap.get? b=some o'
 out:∀o6 σ H s ea C x,Inv X o6 σ H s->gB H s.heap g ea (.ref C)->ki X.K x (.ref C)->xr x H->X.xe (.ref ea) s
def hA {K:Frag}{i:Value}{A:Around}{r:bY}{s:Shared}{E:XK}:
  wm (yO (wu P w) P w K mg base N qual scope f i A r s H E) s.heap (yT K E) where
 th:=λp g h S I b o e=>(show Un (qE r) [] H h s.heap S.heap from I.base).there b o e (by simp)
 out:=λp g h S d C x I l c a=>Dx I l (a C c)
section
variable {g:Heap}{c:Expr}
def Ro (K:Frag)(X:XR):XK:=λc _ H=>∃x C,c=.ref C/\ki K x (.ref C)/\X x H
def wm.passes (x:wm X g xr):Passes (wu X.prog X.w) X (Ro X.K xr):=λp j H s e S I h=>by obtain⟨b,C,d,rfl,i,l,_,nm,f,E,c,a⟩:=PZ I h g (x.th p j H s I);cases E;exact x.out p j d S b C nm i l c a
end
def w5 (n:Nat)(m:Ex):Fn:=λa A=>(m (a.map some++List.replicate (n-a.length) none) A).bind λfl b=>match fl with|.rt w=>.ok w b|.nx _=>.ok .non b|_=>.bad
inductive Sk (C:Addr)(bmB:bP)(oS:String)(h:Heap):Prop
 |mk (tl N nm q bs hdct sn sub ab col dd k0 k1 k2 k3 k5 mN:_) (obj:h.get? C=some (excClassObj nm q C N bs tl hdct sn sub ab col dd k0 k1 k2 k3 k5 oS)) (ns:h.Ns N mN) (init:mN "__init__"=none) (tail:OwnTail h bmB tl)
noncomputable def hE (d:Data):Option { c:ClassData // d=.cls c }:=match d with|.cls c=>some ⟨c,rfl⟩|_=>none
def Zr (K:Frag)(C:Addr)(b:bP)(n:String):Bool:=(K.lookup C).any λo=>(hE o.data).any λc=>
 o.cls==.type "type" && c.1.mro==.ref C::c.1.mro.tail&&o.slots.toList==[o.slots.toList.getD 0 none,o.slots.toList.getD 1 none,o.slots.toList.getD 2 none,o.slots.toList.getD 3 none,some (.builtin n),o.slots.toList.getD 5 none]
  && c.1.hasDel==false&&PySem.W.tailIn K b c.1.mro.tail&&PySem.W.nsOkIn K c.1.ns&&nsIn K c.1.ns "__init__" == some none
def Sa {K:Frag}{C:Addr}{b:bP}{n:String}(X:K.In h)(q:Zr K C b n=true):Sk C b n h:=by obtain⟨⟨o,r,t,⟨S⟩⟩,H,q⟩:=(Option.any_eq_true _ _).mp q;obtain⟨⟨⟨nm,bs,M,N,Q,p,j,sub,A,l,D⟩,i⟩,-,q⟩:=(Option.any_eq_true _ _).mp q;simp only[ak,aK]at q;obtain⟨⟨⟨⟨⟨⟨g,f⟩,d⟩,c⟩,a⟩,e⟩,E⟩:=q;cases i;cases g;cases c;exact⟨M.tail,N,nm,Q,bs,p,j,sub,A,l,r,_,_,_,_,_,_,X _ _ (by rw[H,f,d];rfl),.of_isNs (PySem.W.isNs_of_in X e),PySem.W.nsMap_none_of_in X e E,PySem.W.tail_of_in X a⟩
def TR (x:Str)(M:Ea):Ex:=λa A=>(M a A).bind λ_ b=>.exc x b
section
variable {g:Heap}{np:Pos}{C:Addr}{B oS oY:String}{bmB:bP}
def hH {s:Shared}{e:Addr}{a:bP}(x:wm X g xr)(I:Inv X o6 σ H s)(m:Heap.MadeExcOf s.heap h' e (.ref C) a):
  Inv X o6 σ H { s with heap:=h' }/\gB H h' g e (.ref C):=by
 have N:∀b,s.heap.get? b=none->H b=none:=λb z=>by
  cases q:H b with|none=>rfl|some u=>obtain⟨o,k⟩:=(I.hok b u q).obj;rw[z]at k;cases k
 have n:∀b,s.heap.get? b=none->g.get? b=none:=λb z=>by
  cases q:g.get? b with|none=>rfl|some o=>obtain⟨f,k⟩:=x.th o6 σ H s I b o q;rw[z]at k;cases k
 obtain⟨t,d,i,h⟩:=m.there;refine⟨I.call' (s':={ s with heap:=h' }) (ch:=[]) rfl ⟨λb o q _ _ _=>m.keeps b o q,λb o q _ _ _=>⟨o.slots,m.keeps b o q⟩,λb o q z _=>z,λb o q _=>⟨o,m.keeps b o q⟩,λ_ _ q=>q,λ_ _ _ q=>q,λb ps q=>⟨#[],by rw[Array.append_empty];exact q⟩⟩
  (λb u q=>(I.hok b u q).stay (λc v _ z=>m.keeps c v z) (λ_ z=>z) λ_ _ z=>z) I.bare (λb z=>absurd z (by simp)),?_⟩
 exact⟨n e m.new,N e m.new,_,_,_,d,rfl,rfl,rfl,.inl rfl⟩
def C4 (o:wm X g xr)(f:ki X.K x (.ref C))(ex:Zr X.K C bmB oS=true)(FB:ExcBaseFacts B oS oY bmB)(z:SA X xr (e::es) mr)(v:Zt mr n)(hn:n<=sizeLine:=by decide)(w:Gl X x:=by rfl)(a:X.calm=true:=by rfl)
  (d:yo x:=by decide)(he:jb e es X:=by rfl)(l:kX oH es X:=by rfl):
  SS X xr (.Raise (some (.Call (.Name x np) (e::es) [] oH)) none o7) (TR x mr):=by
 intro o6 s σ H D I ⟨φ,A,ρ,S,re,h⟩;have hm:X.mg x=some (.ref C):=mg_of I.mod.kin I.mod.glob f;obtain⟨t,N,nm,q,bs,hdct,sn,sub,ab,col,dd,k0,k1,k2,k3,k5,mN,M,J,c,T⟩:=Sa I.mod.kin ex;refine wpAny_Raise_call_subT (C:=C) (nm:=nm) (q:=q) (N:=N) (bs:=bs) (bm:=t) (hdct:=hdct) (sn:=sn) (sub:=sub) (ab:=ab) (col:=col) (dd:=dd) (k0:=k0) (k1:=k1) (k2:=k2) (k3:=k3) (k5:=k5)
  FB (mN:=mN) (T.hasType FB.hasBase) (I.ok.hd a) (by rw[he];show(false || (backTo oH (starEach es X.env)).any (·.1))=false;rw[l];rfl) c (Yo I w hm ⟨rfl,?_⟩ d)
 have h':=zS.mp h;have j:=z oH o6 s σ H (λvs H1=>vs.length<=sizeLine/\xr x H1) I ⟨φ,A,ρ,S,re,?_⟩
 ·rw[he]at j ⊢
  refine Calls.evalArgs_plain (wpAny_mono j (λus s2 h2=>?_) λ_ _ y=>y);obtain⟨vs,Z,i,r,hlen,u⟩:=h2;refine⟨rfl,?_,i.bk _ _ M,J.keeps i.bk,T.keeps i.bk,λh3 P m=>?_⟩
  ·rw[<- r.length];exact hlen
  ·obtain⟨Y,L⟩:=hH o i m
   exact o.out o6 σ Z _ P C x Y L f u
 ·cases E:mr ρ A with
  |ok ws A1=>
   rw[E]at h';intro b H1 vs p U Q;refine⟨?_,h' b H1 p U⟩;rw[<- Q.length,v ρ A ws A1 E];exact hn
  |exc y A1=>rw[E]at h';exact h'|bad=>rw[E]at h';exact h'
end
noncomputable def mJ:List Ev->Str->Ev
 |[],acc=>λ_ A=>.ok (.str acc) A|m::ms,acc=>λa A=>(m a A).bind λw b=>match w with|.str y=>if (acc++y).length<=sizeLine then mJ ms (acc++y) a b else .bad|_=>.bad
section
variable {m:Ev}{ms:List Ev}
inductive SJ (X:Cx)(xr:XR):List Expr->List Ev->Prop where
 |nil:SJ X xr [] []
 |cons {e:Expr} {es:bW} {m:Ev} {ms:List Ev} (h:SE X xr e m) (r:SJ X xr es ms):SJ X xr (e::es) (m::ms)
end
section
variable {A:Around}{s:Shared}{e C:Addr}{oe:Obj}{bmB bmD:bP}{oS oV:String}{Q:Bool->Shared->Prop}
def NM (h:Heap)(C D:Addr):Prop:=∃o c,h.get? C=some o/\o.data=.cls c/\c.mro.contains (.ref D)=true
def E4 (lc:Sk C bmB oS s.heap)(ld:Sk D bmD oV s.heap)(j:bmD.contains (.type "BaseException")=true)(he:s.heap.get? e=some oe)(a:oe.cls=.ref C)(up:NM s.heap C D)(w:Q true s):
  wpAny M A (excMatches (.ref e) (.ref D)) Q E s:=by
 obtain⟨h,g,d,t,os⟩:=s;obtain⟨n,N,nm,q,bs,Z,sn,sub,ab,col,dd,k0,k1,k2,k3,k5,mN,l,_,_,_⟩:=lc;obtain⟨T,Y,u,I,y,c,r,S,z,p,x,X,U,P,K,L,v,o,_,_,T2⟩:=ld;obtain⟨J,cd,b,hd,hm⟩:=up;rw[l]at b;cases b;have H:(excClassObj nm q C N bs n Z sn sub ab col dd k0 k1 k2 k3 k5 oS).data=.cls cd:=hd;unfold excClassObj at H;cases H;have B:(Value.ref D::T).contains (.type "BaseException")=true:=by rw[List.contains_cons,T2.hasType j,Bool.or_true]
 have i:(Value.ref C::n).contains (.ref D)=true:=hm;have f:=tc_notTuple;unfold excMatches
 repeat (first|(with_reducible refine wpAny_loadPart_at he ?_;rw[a])|with_reducible refine wpAny_loadPart_at o ?_|with_reducible refine wpAny_loadPart_at l ?_|(with_reducible refine wpAny_isSubtype_exc o ?_;rw[B])|(with_reducible refine wpAny_isSubtype_exc l ?_;rw[i])|wp_step)
 exact w
end
section
variable {H0:Hp}{s0 s:Shared}{ea C:Addr}
def landed {T:Addr}{a0:Value}(g:Inv X o6 σ H0 s0)(I:Inv X o6 σ H s)(x:gB H s.heap s0.heap ea (.ref C))(nT:s0.heap.get? T=none)(hT:H T=none)
  (th:∀b o,s0.heap.get? b=some o->∃o',s.heap.get? b=some o')
  (fl:Heap.FlyingW (hideAll s.heap (ea::T::qE X.stack)) X.stack ea (.ref C) a0 h')(us:s.heap.UpToSlots h'):
  Inv X o6 σ H { s with heap:=h' }/\gB H h' s0.heap ea (.ref C)/\Tr h' ea/\∀b o,s0.heap.get? b=some o->∃o',h'.get? b=some o':=by
 obtain⟨st,_,ff,Y,vs,t,oT,M,he,⟨w,h0⟩,hd,h1,j,A,B,l,h3⟩:=fl;have Z:s0.heap.get? ea=none:=by cases x;assumption
 have nH:H ea=none:=by cases x;assumption
 have kept:∀b o,s.heap.get? b=some o->b∉qE X.stack->b≠ea->b≠T->h'.get? b=some o:=λb o q n1 N n3=>st b o (bH _ q λhm=>by
  rcases cm.mp hm with z|hm
  ·exact N z
  rcases cm.mp hm with z|hm
  ·exact n3 z
  ·exact n1 hm)
 have slot:∀b o,s.heap.get? b=some o->b∈qE X.stack->∃S,h'.get? b=some { o with slots:=S }:=λb o q hm=>by obtain⟨_,o',h,f⟩:=I.stack.mem hm;rw[q]at h;cases h;exact us b o q f
 have off:∀b u,H b=some u->b∉qE X.stack/\b≠ea/\b≠T:=λb u q=>⟨λhm=>(by rw[I.stkFree b hm]at q;cases q),λz=>(by rw[z,nH]at q;cases q),λz=>(by rw[z,hT]at q;cases q)⟩
 have ne:∀b o,s0.heap.get? b=some o->b≠ea/\b≠T:=λb o q=>⟨λz=>(by rw[z,Z]at q;cases q),λz=>(by rw[z,nT]at q;cases q)⟩
 have any:∀b o o',s0.heap.get? b=some o'->s.heap.get? b=some o->∃S,h'.get? b=some { o with slots:=S }:=λb o o' Q q=>by
  by_cases hm:b∈qE X.stack
  ·exact slot b o q hm
  ·exact⟨o.slots,kept b o q hm (ne b o' Q).1 (ne b o' Q).2⟩
 have cell:∀y c,X.env.cells.lookup y=some c->∀v,s.heap.IsCell c v->h'.IsCell c v:=λy c e v ⟨o,K,hd⟩=>by obtain⟨_,o0,d,_⟩:=g.cell y c e;obtain⟨S,z⟩:=any c o o0 d K;exact⟨_,z,hd⟩
 have inv:Inv X o6 σ H { s with heap:=h' }:=by
  refine⟨I.ok,I.os,I.bare,⟨λb o q n J nx=>?_,λb o q n hf nx=>?_,I.base.free,λb o q nx=>?_,I.base.tups,I.base.frzs,I.base.tbls⟩,?_,λy c e=>?_,I.free,I.freeC,λp hp=>?_,λb u q=>?_,I.len⟩
  ·have a:=I.base.keep b o q n J nx
   have Q:=g.base.keep b o q n J nx;refine kept b o a (λhm=>?_) (ne b o Q).1 (ne b o Q).2;rcases cm.mp (I.stkSub b hm) with z|z
   ·exact absurd (aJ (aM q) I.ok.above) (by rw[z];exact aS _)
   ·exact J z
  ·obtain⟨S,a⟩:=I.base.slot b o q n hf nx
   obtain⟨sl0,Q⟩:=g.base.slot b o q n hf nx;obtain⟨D,z⟩:=any b _ _ Q a;exact⟨D,z⟩
  ·obtain⟨E,a⟩:=I.base.there b o q nx
   obtain⟨o0,Q⟩:=g.base.there b o q nx;obtain⟨S,z⟩:=any b E o0 Q a;exact⟨_,z⟩
  ·obtain⟨m,⟨o,es,ep,K,r⟩,k⟩:=I.loc
   obtain⟨_,⟨o0,_,_,d,_⟩,_⟩:=g.loc;obtain⟨S,z⟩:=any _ o o0 d K;refine⟨m,⟨_,es,ep,z,r⟩,λi y v e1 e2 e3=>?_⟩;obtain⟨u,ru,lk⟩:=k i y v e1 e2 e3;refine⟨u,ru,?_⟩;rcases lk with lk|⟨lk,c,ec,L⟩
   ·exact .inl lk
   ·exact .inr ⟨lk,c,ec,cell y c ec _ L⟩
  ·obtain⟨v,hv⟩:=I.cell y c e
   exact⟨v,cell y c e v hv⟩
  ·obtain⟨p1,p2,p3,P,p5⟩:=I.pin p hp
   have U:=(g.pin p hp).1;refine⟨kept _ _ p1 (λhm=>?_) (ne _ _ U).1 (ne _ _ U).2,p2,p3,P,p5⟩;rcases cm.mp (I.stkSub _ hm) with z|z
   ·exact p3 z
   ·exact P z
  ·refine(I.hok b u q).stay (λc v L z=>?_) (λ_ z=>z) λ_ _ z=>z
   rcases L with e|e
   ·obtain⟨n1,N,n3⟩:=off b u q
    rw[e]at z ⊢;exact kept b v z n1 N n3
   ·obtain⟨n1,N,n3⟩:=off c _ e
    exact kept c v z n1 N n3
 have both:s0.heap.get? t=none/\H t=none:=by
  cases q:s.heap.get? t with
  |some o=>
   by_cases hm:t∈ea::T::qE X.stack
   ·rcases cm.mp hm with z|hm
    ·exact absurd z A
    rcases cm.mp hm with z|hm
    ·rw[z];exact⟨nT,hT⟩
    ·obtain⟨S,z⟩:=slot t o q hm
     obtain⟨_,o',h,f⟩:=I.stack.mem hm;rw[q]at h;cases h;rw[B]at z;cases z;exact absurd l (f M)
   ·rw[bH _ q hm]at j;cases j
  |none=>
   constructor
   ·cases z:s0.heap.get? t with|none=>rfl|some o=>obtain⟨o',k⟩:=th t o z;rw[q]at k;cases k
   ·cases z:H t with|none=>rfl|some u=>obtain⟨o',k⟩:=(I.hok t u z).obj;rw[q]at k;cases k
 exact⟨inv,⟨Z,nH,Y,vs,a0,he,w,hd,h0,.inr ⟨t,oT,M,h1,A,both.1,both.2,B,l,h3⟩⟩,⟨Y,vs,t,he,hd,h1⟩,λb o q=>by obtain⟨E,a⟩:=th b o q;obtain⟨S,z⟩:=any b E o q a;exact⟨_,z⟩⟩
def flying (I:Inv X o6 σ H s)(x:gB H s.heap s0.heap ea (.ref C))(tr:Tr s.heap ea):
  ∃T A,s0.heap.get? T=none/\H T=none/\Heap.FlyingW (hideAll s.heap (ea::T::qE X.stack)) X.stack ea (.ref C) A s.heap:=by
 obtain⟨u,w,l,J,A,D,p,E,K,z⟩:=x;obtain⟨j,v,y,h,a,c⟩:=tr;rw[D]at h;cases h;rw[E]at a;cases a;rcases z with z|⟨T,n,t,z,g,d,i,hT,e,r⟩
 ·rw[z]at c;cases c
 ·have B:∀b∈ea::T::qE X.stack,(hideAll s.heap (ea::T::qE X.stack)).get? b=none:=λb f=>hideAll_none _ f
  exact⟨T,A,d,i,λb o q=>of_hideAll _ q,B ea (aF ..),frames_at I.stack λb f=>B b (aA _ (aA _ f)),
   l,J,T,n,t,D,⟨p,K⟩,E,z,B T (aA _ (aF ..)),g,hT,e,r⟩
end
noncomputable def Wq (o:Obj):HO:=.frz o (.own 0)
noncomputable def JI (K:Frag)(C D:Addr):Bool:=match K.lookup C with|some ⟨_,_,.cls c,_⟩=>c.mro.contains (.ref D)|_=>false
def hJ {K:Frag}{C:Addr}(X:K.In h)(e:JI K C D=true):NM h C D:=by
 unfold JI at e
 split at e
 ·rename_i H
  exact⟨_,_,X _ _ H,rfl,e⟩
 ·cases e
section
variable {H0:Hp}{s0 s:Shared}{ea C L:Addr}
def YB (i:Inv X o6 σ H0 s0)(I:Inv X o6 σ H s)(x:gB H s.heap s0.heap ea (.ref C)):∃a,a.cls=.ref C/\H ea=none/\Inv X o6 σ (upd H ea (Wq a)) s:=by
 obtain⟨j,d,a,E,A,B,l,_⟩:=x;refine⟨a,l,d,?_⟩;have t:∀b o,s0.heap.get? b=some o->b≠ea:=λb o q z=>by rw[z,j]at q;cases q
 have at_:∀b,b≠ea->upd H ea (Wq a) b=H b:=λb n=>by unfold upd;exact aj n
 have N:∀b u,H b=some u->upd H ea (Wq a) b=some u:=λb u q=>by rw[at_ b λz=>by rw[z,d]at q;cases q];exact q
 refine⟨I.ok,I.os,I.bare,⟨I.base.keep,I.base.slot,λb o q n nx=>?_,I.base.there,λb w q=>N _ _ (I.base.tups b w q),λb o u q=>N _ _ (I.base.frzs b o u q),λb ps q=>?_⟩,I.loc,I.cell,?_,λy c e=>?_,λp f=>?_,λb u q=>?_,I.len⟩
 ·obtain⟨r,Q⟩:=i.base.there b o q nx
  rw[at_ b (t b r Q)];exact I.base.free b o q n nx
 ·obtain⟨M,z⟩:=I.base.tbls b ps q
  exact⟨M,N _ _ z⟩
 ·obtain⟨m,⟨r,_,_,h,_⟩,_⟩:=i.loc
  rw[at_ _ (t _ r h)];exact I.free
 ·obtain⟨v,r,h,_⟩:=i.cell y c e
  rw[at_ _ (t _ r h)];exact I.freeC y c e
 ·obtain⟨g,P,D⟩:=I.pin p f
  refine⟨g,?_,D⟩;rw[at_ _ (t _ _ (i.pin p f).1)];exact P
 ·by_cases z:b=ea
  ·subst z
   have:u=Wq a:=by unfold upd at q;rw[ai rfl]at q;exact(aE q).symm
   subst this;exact⟨B,⟨a,B⟩⟩
  ·rw[at_ b z]at q
   exact(I.hok b u q).stay (λ_ _ _ z=>z) (λc z=>N c _ z) λc w z=>N c _ z
def hV (X:Cx)(p:bR)(c:St)(S:Shared)(D:Addr)(k:Addr->Addr->Hp->Prop)(e:Value)(s:Shared):Prop:=
 ∃E C H B n,e=.ref E/\Inv X p c H s/\gB H s.heap S.heap E (.ref C)/\Tr s.heap E/\(∀b o,S.heap.get? b=some o->∃d,s.heap.get? b=some d)/\Mi.Zr X.K C B n=true/\JI X.K C D=true/\∀a,a.cls=.ref C->H E=none->k E C (upd H E (Wq a))
def hW {l n:Str}{p:bP}{oV:String}{S:b9}{B:Stmt}{np hp:Pos}{Q:Flow->Shared->Prop}{k:Addr->Addr->Hp->Prop}
  (I0:Inv X o6 σ H0 s0)(t:X.stack=X.env::X.outer)(hL:X.env.frame=some L)(hD:ki X.K l (.ref D))(exD:Mi.Zr X.K D p oV=true)(hbD:p.contains (.type "BaseException")=true)
  (hN:X.N.Nodup)(hi:X.N[i]? =some n)(hx:Loc X.env.scope n)
  (y:wpAny (model X.prog X.w) X.A (execs body X.env) (λf s1=>f=.next/\Q .next s1) (hV X o6 σ s0 D k) s0)
  (b:∀E C H s2,Inv X o6 (σ.set i (some (.ref E))) H s2->k E C H->∀E',wpAny (model X.prog X.w) (X.A.mark (some (.ref E))) (execs (B::S) X.env)
   (λf s4=>wpAny (model X.prog X.w) X.A (do bindName X.env n .none;unbindBehindTheSuite X.env n hp) (λ_ s5=>Q f s5) X.xe s4) E' s2)
  (hg:Gl X l)(Z:yo l:=by decide)(hf:gM X n:=by first|exact .inl rfl|exact .inr rfl|assumption):
  wpAny (model X.prog X.w) X.A (exec (.Try body [.ExceptHandler (some (.Name l np)) (some n) (B::S) hp] [] [] o7) X.env) Q X.xe s0:=by
 refine wpAny_Try_except (wpAny_mono y (λf s1 ⟨ef,q⟩=>?_) λe s1 h=>?_)
 ·subst ef
  exact wpAny_execs_nil q
 obtain⟨E,C,H,bmC,newC,rfl,I,x,tr,th,exC,up,hk⟩:=h;have hm:X.mg l=some (.ref D):=mg_of I.mod.kin I.mod.glob hD;obtain⟨T,a0,nT,hT,fl⟩:=flying I x tr;have Y:X.A.frames=some (X.env::X.outer):=by rw[<- t];exact I.ok.frames
 refine wpAny_looks_onW Y hL (by rw[<- t];exact fl) λh₄ g d=>?_
 refine wpAny_landsW g λo a U=>?_;obtain⟨c,x5,r,z⟩:=landed I0 I x nT hT th (by rw[<- t]at a;exact a) (d.trans U)
 obtain⟨_,_,oe,_,_,he,hc,_⟩:=id x5;refine wpAny_handleBy_cons (codeAny_handlers_test (Calls.Name_function_global c.ok.kind hg (Calls.loadGlobal_global (by rw[c.ok.glob];exact c.mod.glob.keeps c.bk) hm ?_) Z)) (by intro q;cases q)
 refine E4 (s:={ s1 with heap:=o }) (Sa c.kIn exC) (Sa c.kIn exD) hbD he hc (hJ c.kIn up) ?_
 refine codeAny_handlers_suite_as ?_;obtain⟨T',a0',M,hT',fl'⟩:=flying c x5 r;refine lands_againW fl' λh₆ j u=>?_;obtain⟨I6,x6,_,_⟩:=landed I0 c x5 M hT' z j u;obtain⟨of,P,J,I7⟩:=YB I0 I6 x6;exact Ji (v:=.ref E) I7 hN hi hx rfl (λs7 I7=>b E C _ s7 I7 (hk of P J) _) hf
end
section
variable {s:Shared}{A:Around}
def name_goes {n:Str}{Q:Unit->Shared->Prop}(I:Inv X o6 σ H s)(hN:X.N.Nodup)(D:X.N[i]? =some n)(Z:X.env.scope.names.lookup n=some .local)
  (h:∀s',Inv X o6 (σ.set i none) H s'->Q () s'):wpAny M A (do bindName X.env n .none;unbindBehindTheSuite X.env n o7) Q E s:=by
 obtain⟨m,hn,Y⟩:=id I.loc;have f:i < σ.length:=by rw[I.len];exact(cj.mp D).1
 refine wpAny_nameGoes_keeps Z hn (by rw[I.ok.kind];rfl) λh' v w t=>h _ ?_
 have old:∀b o,b≠X.env.locals->s.heap.get? b=some o->h'.get? b=some o:=λb o n q=>(t.2 b n).trans q;have nl:∀{b:Addr}{u:HO},H b=some u->b≠X.env.locals:=λq z=>by rw[z,I.free]at q;cases q
 have ab:∀{b:Addr}{k:Nat},b<k->k<=X.env.locals->b≠X.env.locals:=λl g=>aO (aJ l g);refine⟨I.ok,I.os,I.bare,⟨λb o e z C x=>?_,λb o e z C x=>?_,I.base.free,λb o e x=>?_,I.base.tups,I.base.frzs,I.base.tbls⟩,⟨_,w,λj y K a r e3=>?_⟩,λy c e=>?_,I.free,I.freeC,λp T=>?_,λb u q=>?_,by simpa using I.len⟩
 ·exact old b o (ab (aM e) I.ok.above) (I.base.keep b o e z C x)
 ·obtain⟨S,a⟩:=I.base.slot b o e z C x
  exact⟨S,old b _ (ab (aM e) I.ok.above) a⟩
 ·obtain⟨o',a⟩:=I.base.there b o e x
  exact⟨o',old b _ (ab (aM e) I.ok.above) a⟩
 ·by_cases B:j=i
  ·subst B
   rw[aw f]at r;cases r
  ·rw[au (Ne.symm B)]at r
   obtain⟨U,L,q⟩:=Y j y K a r e3;refine⟨U,L,?_⟩;rcases q with ⟨k,e⟩|⟨k,c,e,z⟩
   ·have:y≠n:=λe=>B (Uz hN a (e ▸ D))
    exact .inl ⟨k,by simp[this,e]⟩
   ·exact .inr ⟨k,c,e,z.sameBut t (I.cne y c e)⟩
 ·obtain⟨J,z⟩:=I.cell y c e
  exact⟨J,z.sameBut t (I.cne y c e)⟩
 ·obtain⟨e,z,ne,P,d⟩:=I.pin p T
  exact⟨old _ _ ne e,z,ne,P,d⟩
 ·refine(I.hok b u q).stay (λc v hc z=>old c v ?_ z) (λ_ z=>z) λ_ _ z=>z
  rcases hc with e|e
  ·rw[e];exact nl q
  ·exact nl e
def EF {j:Nat}{n y:Str}{E:Addr}{C Y D p:Pos}{Q:Flow->Shared->Prop}{B:bV}(I:Inv X o6 (σ.set i (some (.ref E))) H s)(d:X.N.Nodup)(b:X.N[i]? =some n)(x:X.N[j]? =some y)
  (h:X.env.scope.names.lookup n=some .local)(g:Loc X.env.scope y)(q:∀s',Inv X o6 (((σ.set i (some (.ref E))).set j (some (.ref E))).set i none) H s'->Q .next s')
  (o:swapsWith (.Name n C) (some (.Name y Y)) D.line X.env=pure false)(M:gM X y)
  (c:yo n:=by decide):
  wpAny (model X.prog X.w) A (execs [.Assign [.Name y Y] (.Name n C) D] X.env) (λf J=>wpAny (model X.prog X.w) X.A (do bindName X.env n .none;unbindBehindTheSuite X.env n p) (λ_ S=>Q f S) X.xe J) B s:=by
 obtain⟨m,K,t⟩:=I.loc;have a:i < σ.length:=by have:=I.len;rw[bD]at this;rw[this];exact(cj.mp b).1
 obtain⟨u,r,l⟩:=t i n (.ref E) b (aw a) (.inl h);obtain rfl:u=Value.ref E:=r;have L:m n=some (.ref E):=by
  rcases l with ⟨_,e⟩|⟨k|k,_⟩
  ·exact e
  ·rw[show X.env.kindOf n=some .local from h]at k;cases k
  ·rw[show X.env.kindOf n=some .local from h]at k;cases k
 refine wpAny_execs_cons (wpAny_Assign_Name (wpAny_Name (wpAny_loadName_local I.ok.kind h K L ?_) c) o);exact Ji (v:=.ref E) I d x g rfl (λS z=>wpAny_execs_nil (name_goes z d b h q)) M
end
open PySem PySem.W PySem.Spec PySem.Calls PyProof.Rows Builtin Builtin.ObjectAttr Builtin.Getset_descriptor
section
variable {prog:Program}{A:Around}{s:Shared}{K:Frag}{x:Addr}{name:Str}
def hX {a g:Value}(X:K.In h)(b:findIn K (.ref D) name=some (some a))(n:specialIn K a "__get__"=some (some g))(H:takesIn K a=some true):Looks M h (find (.ref x) (.ref D) name) (.bind g a):=
 (looks_findIn (M:=M) X b).andThen ((show Looks M h (getOf (some a)) (some g) from looks_specialIn X n).andThen
  ((show Looks M h (dataDescriptor? (some a) (some g)) (some (g,a)) from (looks_takesIn (M:=M) X H).andThen .now).andThen (Looks.tag .now)))
def Ac {tp:Value}{R:Result->Shared->Prop}(X:K.In s.heap)(l:Looks (model prog w) s.heap (typeOf (.ref x)) (.ref D))(H:mroIn K D (.type "object")=some true)(h:R (.ok (.ret (.ref D))) s):
  codeAny (model prog w) A (.call (.builtin "getset_descriptor.__get__") ⟨[.builtin "object.__class__",.ref x,tp],[]⟩) R s:=by
 obtain⟨a,g,d,t,o⟩:=s;have L:=looks_mroIn (M:=model prog w) X H;have S:=KF.slot_gs;refine codeAny_call_builtin S.plain KF.entry_gs (S.check _ _ _ _ _ _ _ _ KF.type_class (KF.args_gs _ _ _) ?_);unfold «getset_descriptor.__get__» descrGet;rw[dga_obj];refine cb (cg ?_);unfold descrGetter descrCheckInstance isInstance descrNameAndClass;simp only[KF.owner_class]
 repeat lk
 refine And.intro (Code.quiet_builtin _ (by decide +kernel)) (codeAny_builtin KF.entry_class ?_)
 unfold «object.__class__» shownTypeOf
 repeat lk
 exact h
def E5 {t:bP}{w:List (Str×Value)}{Q:Unit->Shared->Prop}(X:K.In s.heap)(l:Looks M s.heap (typeOf (.ref x)) (.ref D))(H:mroIn K D (.type "BaseException")=some true)
  (ok:argsOk "BaseException.__getattribute__" ⟨.ref x::t,w⟩)(h:Q () s):wpAny M A (checkBuiltinCall "BaseException.__getattribute__" ⟨.ref x::t,w⟩) Q E s:=by
 have c:splitId "BaseException.__getattribute__"=some ("BaseException","__getattribute__"):=by first|rfl|decide +kernel
 have a:builtinKind "BaseException.__getattribute__"=some .slot∨builtinKind "BaseException.__getattribute__"=some .method:=by
  simp only[builtinKind,c]
  first|exact .inl (by decide +kernel)|exact .inr (by decide +kernel)
 have L:=looks_mroIn (M:=M) X H;have r:wpAny M A (match Manifest.signature? "BaseException.__getattribute__" with|some S=>Bind.checkArgs "BaseException.__getattribute__" S ⟨.ref x::t,w⟩|none=>pure ()) Q E s:=wpAny_of_eq ok h
 rcases a with d|d
 all_goals
  unfold checkBuiltinCall;rw[d,c];dsimp only;unfold isInstance;refine cb (cb (l.at (L.at ?_)));exact r
def FI {Q:Option Value->Shared->Prop}(b:findIn K (.ref D) "__getattribute__"=some (some (.builtin "BaseException.__getattribute__")))(n:findIn K (.ref D) "__getattr__"=some none)
  (e:findIn K (.ref D) "__class__"=some (some (.builtin "object.__class__")))
  (i:specialIn K (.builtin "object.__class__") "__get__"=some (some (.builtin "getset_descriptor.__get__")))(H:takesIn K (.builtin "object.__class__")=some true)(j:mroIn K D (.type "object")=some true)(a:mroIn K D (.type "BaseException")=some true)
  (X:K.In s.heap)(L:Looks (model prog w) s.heap (typeOf (.ref x)) (.ref D))(h:Q (some (.ref D)) { s with toks:=s.toks+1 }):wpAny (model prog w) A (getAttr? (.ref x) "__class__") Q E s:=by
 obtain⟨c,g,d,t,o⟩:=s;have l:=looks_findIn (M:=model prog w) X b;have L2:=hX (M:=model prog w) (x:=x) X e i H;have f:=looks_findIn (M:=model prog w) X n;unfold getAttr?;unfold getAttrBy?;unfold getAttrBy;refine cb (wpAny_mkText (cb (wpAny_attempt (wpAny_holding (cb (L.at (cb (l.at ?_))))))));show wpAny _ _ (getAttrByItsOwn (.ref x) (.str "__class__" t) (.ref D) (.builtin "BaseException.__getattribute__") false false) _ _ _;unfold getAttrByItsOwn;refine cb ?_;show wpAny _ _ (typeLookup (.ref D) "__getattr__") _ _ _;refine f.at (cb (wpAny_attempt (wpAny_holding ?_)));show wpAny _ _ (bindSpecial (.builtin "BaseException.__getattribute__") (.ref x) >>= _) _ _ _;refine cb (wpAny_of_eq (F.excAttr_ValueError.ga.bind _) ?_);refine wpAny_call (codeAny_call_builtin F.excAttr_ValueError.ga.plain F.entry_bexc_ga (E5 X L a (F.args_bexc_ga _ _) ?_));unfold «object.__getattribute__»;refine cb (wpAny_of_eq (show slotArgs "__getattribute__" 1 ⟨[.ref x]++[.str "__class__" t],[]⟩=pure (.ref x,[.str "__class__" t]) from rfl) ?_)
 refine cb (wpAny_of_eq (show attrName (.str "__class__" t)=pure ("__class__":Str) from rfl) (cb (L.at (cb (L2.at ?_)))))
 show wpAny _ _ (holding [Value.builtin "object.__class__"] (call (.builtin "getset_descriptor.__get__") [.builtin "object.__class__",.ref x,.ref D]) >>= ret) _ _ _;refine cb (wpAny_holding (wpAny_call (Ac (s:=⟨c,g,d,t+1,o⟩) X L j ?_)));refine cg ?_;exact handed_on rfl (cg h)
end
def Xe (x D:Addr)(h:Heap):Prop:=∃o,h.get? x=some o/\o.cls=.ref D
def Xe.ty {x:Addr}(p:Xe x D h):Looks M h (typeOf (.ref x)) (.ref D):=by obtain⟨o,H,c⟩:=p;rw[<- c];exact(Looks.ld H).andThen .now
def Bh {K:Frag}{x:Addr}(d:(clsIn K D).isSome=true)(c:findIn K (.ref D) "__getattribute__"=some (some (.builtin "BaseException.__getattribute__")))(b:findIn K (.ref D) "__getattr__"=some none)(e:findIn K (.ref D) "__class__"=some (some (.builtin "object.__class__")))
  (j:specialIn K (.builtin "object.__class__") "__get__"=some (some (.builtin "getset_descriptor.__get__")))(H:takesIn K (.builtin "object.__class__")=some true)(r:mroIn K D (.type "object")=some true)(a:mroIn K D (.type "BaseException")=some true):
  KitX K (.ref x) (.ref D) (Xe x D) where
 ty:=λ_ _ _ p=>p.ty
 it:=λ_ _ X _=>by
  obtain⟨C,h⟩:=Option.isSome_iff_exists.mp d;unfold clsIn at h
  split at h
  ·rename_i g w f S o
   intro A Q E u k q;unfold isType loadHead;exact cb (wpAny_loadPart (k _ _ (X D _ o)) (cg q))
  ·cases h
 ne:=λ_ tp v i n l X t=>by
  obtain⟨C,h⟩:=Option.isSome_iff_exists.mp d;rw[Bool.eq_false_iff];intro q;cases Value.ref.inj (aK.mp q);unfold clsIn at h
  split at h
  ·rename_i o
   cases (X _ _ o).symm.trans t
  ·cases h
 ca:=λX p k=>FI c b e j H r a X p.ty k
noncomputable def KY (K:Frag)(C:Addr):Bool:=(PySem.W.clsIn K C).isSome&&(PySem.W.findIn K (.ref C) "__getattribute__" == some (some (.builtin "BaseException.__getattribute__")))&&(PySem.W.findIn K (.ref C) "__getattr__" == some none)&&(PySem.W.findIn K (.ref C) "__class__" == some (some (.builtin "object.__class__")))&&
 (PySem.W.specialIn K (.builtin "object.__class__") "__get__" == some (some (.builtin "getset_descriptor.__get__")))&&(PySem.W.takesIn K (.builtin "object.__class__")==some true)&&(PySem.W.mroIn K C (.type "object")==some true)&&(PySem.W.mroIn K C (.type "BaseException")==some true)
section
variable {s:Shared}{A:Around}{c:Value}{b:Bool}{ea C:Addr}
def hZ {o:Obj}{u:HO}(I:Inv X o6 σ H s)(e:H ea=some (.frz o u))(d:o.cls=.ref C)(k:KY X.K C=true)(q:kitOne X.K (.ref C) c=some b)(h:∀t,Q (.bool b) { s with toks:=t }):
  wpAny (model X.prog X.w) A (call (.builtin "isinstance") [.ref ea,c]) Q E s:=by
 have p:Xe ea C s.heap:=⟨o,(show qX X.prog X.w H s.heap ea (.frz o u) from I.hok ea _ e).1,d⟩
 unfold KY at k;simp only[ak,aK]at k;obtain⟨⟨⟨⟨⟨⟨⟨r,n⟩,a⟩,l⟩,i⟩,j⟩,g⟩,f⟩:=k;exact bC (Bh r n a l i j g f) I.kIn p q (λz=>nomatch z) h
def h6 (I:Inv X o6 σ H s)(q:kitOne X.K (.type "NoneType") c=some b)(h:∀t,Q (.bool b) { s with toks:=t }):wpAny (model X.prog X.w) A (call (.builtin "isinstance") [.none,c]) Q E s:=
 P2 I (x:=.non) rfl .non q h
end
noncomputable def kx (P:Program)(w:World)(K:Frag)(M:bX)(b:Heap)(N:bU)(qual:Str)(scope:Scope)(f:Addr)(c:Value)(cl:bZ)(A:Around)(o:bY)(s:Shared)(H:Hp)(E:XK):Cx where
 prog:=P
 w:=w
 K:=K
 mg:=M
 base:=b
 A:=A.deeper (envX qual scope s.heap.objs.size f c cl)
 N:=N
 s0:=s
 H0:=H
 env:=envX qual scope s.heap.objs.size f c cl
 outer:=o
 stack:=envX qual scope s.heap.objs.size f c cl::o
 ex:=[]
 calm:=true
 fn:=λ_=>false
 pn:=[]
 xe:=λe d=>wpAny (model P w) (A.deeper (envX qual scope s.heap.objs.size f c cl)) (leaving (envX qual scope s.heap.objs.size f c cl) e) (λ_ S=>wu P w o H s E e S) (λa S=>wu P w o H s E a S) d
section
variable {K:Frag}{cd:Value}{cl:bZ}{A:Around}{outer:bY}{s:Shared}{E:XK}
def E7 {h:Hp}{a C:Addr}(I:Inv (kx P w K mg base N qual scope f cd cl A outer s H E) o6 σ h s')(x:gB h s'.heap s.heap a (.ref C))(y:E (.ref C) none h):
  (kx P w K mg base N qual scope f cd cl A outer s H E).xe (.ref a) s':=by
 have bs:Un (qE outer) [] H h s.heap s'.heap:=I.base;have J:∀b∈qE (envX qual scope s.heap.objs.size f cd cl::outer),h b=none:=I.stkFree;have p:s.heap.get? s.heap.objs.size=none:=Heap.get?_none_of_le (ao _);have g:(envX qual scope s.heap.objs.size f cd cl).frame=some s.heap.objs.size:=rfl;have mem:∀b,b∈qE (envX qual scope s.heap.objs.size f cd cl::outer)↔b=s.heap.objs.size∨b∈qE outer:=λb=>by unfold qE;rw[bb,g];exact mem_cons
 show wpAny (model P w) (A.deeper (envX qual scope s.heap.objs.size f cd cl)) (leaving (envX qual scope s.heap.objs.size f cd cl) (.ref a)) _ _ s';refine NL (base:=base) (L:=s.heap.objs.size) I.ok.frames rfl I.stack x (λb u e=>(I.hok b u e).obj) (λb o e=>bs.there b o e (by simp)) λY D U X t=>?_
 have r:∀b u,h b=some u->b∉qE (envX qual scope s.heap.objs.size f cd cl::outer):=λb u e B=>by rw[J b B]at e;cases e
 refine⟨a,C,h,rfl,I.os,I.bare,⟨λb o e n nb _=>?_,λb o e n T _=>?_,λb o e n d=>bs.free b o e n d,λb o e d=>?_,bs.tups,bs.frzs,bs.tbls⟩,λb u e=>?_,X,t,y⟩
 ·have i:b≠s.heap.objs.size:=λz=>by rw[z,p]at e;cases e
  exact D b o (bs.keep b o e n nb (by simp)) (λB=>(mem b).mp B |>.elim i nb) (.inl ⟨o,e⟩)
 ·obtain⟨l,q⟩:=bs.slot b o e n T (by simp)
  obtain⟨S,Q⟩:=U b _ q ((mem b).mpr (.inr T));exact⟨S,Q⟩
 ·obtain⟨M,q⟩:=bs.there b o e d
  by_cases B:b∈qE (envX qual scope s.heap.objs.size f cd cl::outer)
  ·obtain⟨l,z⟩:=U b M q B;exact⟨_,z⟩
  ·exact⟨M,D b M q B (.inl ⟨o,e⟩)⟩
 ·refine(I.hok b u e).stay (λc v j q=>?_) (λ_ q=>q) λ_ _ q=>q
  rcases j with z|z
  ·rw[z]at q ⊢;exact D b v q (r b u e) (.inr ⟨u,e⟩)
  ·exact D c v q (r c _ z) (.inr ⟨_,z⟩)
def MN:wm (kx P w K mg base N qual scope f cd cl A outer s H E) s.heap (yT K E) where
 th:=λp g h S I b o e=>(show Un (qE outer) [] H h s.heap S.heap from I.base).there b o e (by simp)
 out:=λp g h S d C x I l c a=>E7 I l (a C c)
structure GK (N:bU)(sc:Scope):Prop where
 kind:sc.kind=.function
 co:sc.isCoroutine=false
 gen:sc.isGenerator=false
 nocell:∀y∈sc.names,y.2≠.cell
structure ZJ (base:Heap)(N:bU)(scope:Scope)(cl:bZ)(vs:List V):Prop where
 len:vs.length=N.length
 inj:∀x y c,cl.lookup x=some c->cl.lookup y=some c->x=y
 has:∀x,scope.names.lookup x=some .free->∃c,cl.lookup x=some c
 cell:∀x c,cl.lookup x=some c->∃v,base.IsCell c v
 val:∀(i:Nat)(x:Str)(v:V),N[i]? =some x->vs[i]? =some v->∃c u,scope.names.lookup x=some .free/\cl.lookup x=some c/\base.IsCell c (some u)/\RelV v u
def AL {J:Heap}{T:Tok}(S:GK N scope)(L:A.handled=none)(d:JC P w K mg base A outer s H)(C:ZJ base N scope cl vs)(l:∃m,J.Ns s.heap.objs.size m)(q:∀b o,s.heap.get? b=some o->J.get? b=some o):
  Inv (kx P w K mg base N qual scope f cd cl A outer s H E) [] (L2.start N vs) H { s with heap:=J,toks:=T }:=by
 have n:∀b:Addr,b∉(kx P w K mg base N qual scope f cd cl A outer s H E).ex:=λb z=>absurd (show b∈([]:bQ) from z) (by simp)
 have bk:∀c v,base.IsCell c v->J.IsCell c v/\H c=none:=λc v ⟨o,t,L⟩=>⟨⟨o,q _ _ (d.bs _ _ t).1,L⟩,(d.bs _ _ t).2⟩;obtain⟨m,M⟩:=l;refine⟨⟨d.mod,S.kind,rfl,rfl,ao _,C.inj,λy g=>?_,λy c z _=>(nomatch z),λ_=>L,Around.frames_deeper d.frames,.inr ⟨rfl,rfl⟩,λb z=>absurd z (n b),d.bs,d.bsz,λb _ _=>n b,λb z=>absurd z (n b),d.funs,d.frf⟩,
  rfl,d.bare,Un.kept q,⟨m,M,λi y v J I D=>?_⟩,λy c h=>?_,d.hok.fresh (ao _),λy c h=>?_,λp x=>absurd (show p∈([]:bR) from x) (by simp),d.hok.kept q,?_⟩
 ·have g:scope.names.lookup y=some .cell∨scope.names.lookup y=some .free:=g
  rcases g with g|g
  ·exact absurd rfl (S.nocell _ (PySem.mem_of_lookup g))
  ·exact C.has y g
 ·have j:i<vs.length:=by
   unfold L2.start at I
   by_cases j:i<vs.length
   ·exact j
   ·rw[ar (by simpa using j)]at I
    rw[bf]at I
    split at I<;>cases I
  have B:vs[i]? =some v:=by
   unfold L2.start at I;rw[ah (by simpa using j),av]at I
   cases e:vs[i]? with|none=>rw[e]at I;cases I|some a=>rw[e]at I;cases I;rfl
  obtain⟨c,u,k,e,z,r⟩:=C.val i y v J B;exact⟨u,r,.inr ⟨.inr k,c,e,(bk _ _ z).1⟩⟩
 ·obtain⟨v,z⟩:=C.cell y c h
  exact⟨v,(bk _ _ z).1⟩
 ·obtain⟨v,z⟩:=C.cell y c h
  exact(bk _ _ z).2
 ·unfold L2.start
  show _=N.length;rw[ay,ag,bq,C.len];lia
def Ta (o:Obj)(q:Str):Prop:=∃v t,o.data=.fields v/\v[1]? =some (.str q t)
def h7 {k:Nat}{name:Str}{params:Arguments}{body:Expr}{pm ctv:Value}{c:Addr}{i:Obj}{u uc:HO}{m:Ev}(S:GK N scope)(C:ZJ base N scope cl vs)(p:Ta i qual)
  (g:∀(A:Around)(outer:bY)(s:Shared)(H:Hp)(E:XK),jd k (A.deeper (envX qual scope s.heap.objs.size a (.ref c) cl))->wm (kx P w K mg base N qual scope a (.ref c) cl A outer s H E) s.heap (yT K E)->
   SE (kx P w K mg base N qual scope a (.ref c) cl A outer s H E) (yT K E) body m):
  yh P w K mg base (wu P w) (k+1) a (kla_fn name qual params body scope cl pm (.ref c) ctv) [] (λus H Q E=>us=[]/\H a=some (.frz (kla_obj name qual params body scope cl pm c ctv) u)/\H c=some (.frz i uc)/\
   ∃φ A ws,zL K φ A H/\zE K φ H ws vs/\(m (ws.map some) A).post (PB K φ H Q) (EB K φ H (yT K E))):=by
 refine⟨λus H Q E h=>by rw[h.1];rfl,λA outer s H args us D Q E n l hb r h=>?_⟩
 obtain⟨rfl,h1,h2,φ,A1,ws,Sm,B,Y⟩:=h;cases r;have Z:s.heap.get? a=some (kla_obj name qual params body scope cl pm c ctv):=(show qX P w H s.heap a (.frz _ u) from l.hok a _ h1).1
 have hc:s.heap.get? c=some i:=(show qX P w H s.heap c (.frz i uc) from l.hok c _ h2).1
 have lim:s.heap.NoLimit:=l.mod.nolimit.keeps λb o e=>(l.bs b o e).1;obtain⟨L,M,z,hd2⟩:=p;refine kla_callFunE n.depth Z rfl S.co S.gen rfl ⟨c,i,L,M,rfl,hc,z,hd2⟩ (hb _ _ _ _ ?_);refine wpAny_newFunctionEnv S.nocell (λy U=>absurd (show y∈([]:List (Str×Value)) from U) (by simp)) (λd t j=>⟨lim.fresh _ j,?_⟩) S.kind
 show codeAny _ _ (.expr body (envX qual scope s.heap.objs.size a (.ref c) cl)) _ _;have f:∀b o,s.heap.get? b=some o->d.get? b=some o:=λb o e=>j.extBut b o (aO (aM e)) (af _ e);have I:∀T,Inv (kx P w K mg base N qual scope a (.ref c) cl A outer s H E) [] (L2.start N vs) H { s with heap:=d,toks:=T }:=λT=>AL S n.hd l C ⟨_,t⟩ f
 refine kla_codeExpr (wpAny_mono (g A outer s H E (n.deeper _) MN [] _ (L2.start N vs) H Q (I _) ⟨φ,A1,_,Sm,RE.start (N:=N) B,?_⟩) (λv s' X=>?_) λ_ _ y=>y)
 ·have:N.length-ws.length=0:=by rw[B.length,C.len];lia
  rw[this,List.replicate_zero,aX];exact Y
 ·obtain⟨x,H',J,rx,q⟩:=X
  exact⟨x,H',J.os,J.bare,J.base,J.hok,rx,q⟩
end
inductive zei (K:Frag)(a:Addr)(ob:Obj)(u:HO)(c:Addr)(oc:Obj)(uc:HO)(vs:List V)(g:Fn)(us:List V)(H:Hp)(Q:VK)(E:XK):Prop
 |mk (e:us=[]) (h1:H a=some (.frz ob u)) (h2:H c=some (.frz oc uc)) (φ:bQ) (A:Hx) (ws:List W) (S:zL K φ A H) (r:zE K φ H ws vs) (q:(g ws A).post (PB K φ H Q) (EB K φ H (yT K E)))
def QU (P:Program)(w:World)(K:Frag)(M:bX)(b:Heap)(j:Nat)(p:Obj->Addr->Obj->List V->Prop)(g:Fn):Prop:=
 ∀a ob u c o U v,p ob c o v->(∃f,ob.data=.func f)/\∃f,yh P w K M b (wu P w) j a f [] (zei K a ob u c o U v g)/\∀s,BindsTo s f ⟨[],[]⟩ []
open Classical in
def XN (i:Nat)(PG:Nat->Obj->Addr->Obj->List V->Prop)(l:Nat->Fn):Ev:=λa A=>match a[i]? with|some (some (.clo k ws P))=>if P=PG k then l k ws A else .bad|_=>.bad
def Wo (i j l:Nat)(c:bU)(PG:Nat->Obj->Addr->Obj->List V->Prop)(L:Nat->Fn):Ex:=λa A=>match XN i PG L a A with|.ok _ b=>.ok (.nx a) b|.exc x b=>if c.contains x then .ok (.nx (((a.set l (some (.xc x))).set j (some (.xc x))).set l none)) b else .bad|.bad=>.bad
section
variable {K:Frag}
def RE.unset (r:RE K φ H ρ σ):RE K φ H (ρ.set i none) (σ.set i none):=
 ⟨by simp[r.len],λj u e=>by
  by_cases h:i=j
  ·subst h
   have a:i < ρ.length:=by
    have:=(cj.mp e).1
    simpa using this
   rw[aw a]at e;cases e
  ·rw[au h]at e
   obtain⟨x,c,b⟩:=r.get j u e;exact⟨x,by rw[au h];exact c,b⟩⟩
end
def LF (K:Frag)(c:bQ)(H:Hp)(d:En)(j l:Nat)(D:Ends)(x:Str)(A:Hx):Prop:=∀a h b,Le K c H a h->zL K a A h->RE K a h (((d.set l (some (.xc x))).set j (some (.xc x))).set l none) b->D.nx b h
inductive zff (K:Frag)(φ:bQ)(H:Hp)(ρ:En)(j l:Nat)(D0:Ends)(ea C:Addr)(H':Hp):Prop
 |mk (xn:Str) (oJ:bQ) (A':Hx) (le:Le K φ H oJ H') (S:zL K oJ A' H') (rv:RV K oJ H' (.xc xn) (.ref ea)) (n:LF K φ H ρ j l D0 xn A')
inductive zfL (K:Frag)(φ:bQ)(H:Hp)(ρ:En)(j l:Nat)(D0:Ends)(cs:bU)(Cv:Value)(d:b8)(H1:Hp):Prop
 |mk (xn:Str) (Ca:Addr) (e:Cv=.ref Ca) (hC:ki K xn (.ref Ca)) (hc:cs.contains xn=true) (oO:bQ) (A1:Hx) (le:Le K φ H oO H1) (S:zL K oO A1 H1) (n:LF K φ H ρ j l D0 xn A1)
def LJ (K:Frag)(f:Str->Option Bool)(c:V):List V->Hp->VK->Prop:=λX H Q=>∃x,X=[x,c]/\((x=.non/\Q (.bl false) H)∨∃a o u C nm b,x=.ref a/\H a=some (.frz o u)/\o.cls=.ref C/\ki K nm (.ref C)/\f nm=some b/\Q (.bl b) H)
structure K7 (K:Frag)(f:Str->Option Bool)(c:Value):Prop where
 non:kitOne K (.type "NoneType") c=some false
 exc:∀nm C b,f nm=some b->ki K nm (.ref C)->KY K C=true/\kitOne K (.ref C) c=some b
def yb (f:Str->Option Bool)(m:Ev):Ev:=λc A=>(m c A).bind λw a=>match w with
 |.non=>.ok (.bl false) a|.xc nm=>(match f nm with|some b=>.ok (.bl b) a|none=>.bad)
 |_=>.bad
section
variable {m:Ev}{f:Str->Option Bool}
def OV {cv:V}{c:Value}(g:K7 X.K f c)(n:∀u,RelV cv u->u=c):j9 X (.builtin "isinstance") (LJ X.K f cv):=by
 intro p s y H z A Q I r h;obtain⟨x,rfl,h⟩:=h;obtain⟨u,l,rfl,e,d⟩:=vals2 r;cases n _ d;rcases h with ⟨rfl,q⟩|⟨a,o,U,C,nm,b,rfl,h1,h2,j,i,q⟩
 ·cases (show u=Value.none from e)
  exact h6 I g.non λt=>⟨.bl false,H,I.tok t,rfl,q⟩
 ·cases (show u=Value.ref a from e)
  obtain⟨w,v⟩:=g.exc nm C b i j;exact hZ I h1 h2 w v λt=>⟨.bl b,H,I.tok t,rfl,q⟩
def yb.read {n:V}{t:TE}(p:∀σ H Q,Q n H->t σ H Q):∀σ H Q,tM X.K xr (yb f m) σ H Q->Vg (LJ X.K f n) (Xu (tM X.K xr m) (Xu t Su)) σ H Q:=by
 rintro σ H Q ⟨x,A,y,S,r,h⟩
 refine tM.go S r (zS.mp h) λw B c j v i l d q=>?_;refine p σ j _ ?_;cases w with
 |non=>
  obtain rfl:=q;exact⟨.non,rfl,.inl ⟨rfl,i c j _ l d rfl⟩⟩
 |xc nm=>
  dsimp only at i;cases e:f nm with
  |none=>rw[e]at i;exact i.elim|some b=>
   rw[e]at i;obtain⟨a,o,u,C,rfl,g,Z,z⟩:=q;exact⟨.ref a,rfl,.inr ⟨a,o,u,C,nm,b,rfl,g,Z,z,e,i c j _ l d rfl⟩⟩
 |fn _=>exact i.elim|bl _=>exact i.elim|int _=>exact i.elim|str _=>exact i.elim|tup _=>exact i.elim|ref _=>exact i.elim|clo _ _ _=>exact i.elim
end
def Ff {a b:Int}{c C:Value}(l:bP)(h:TriplesOk l)(e:codeAmong o7 (l++[rawInt a,rawInt b,c])=some C):codeAmong o7 l=some C∨C=c:=by
 fun_induction TriplesOk l with
 |case1=>
  right
  simp only[bK,codeAmong,rawInt]at e
  split at e
  ·exact(aE e).symm
  ·cases e
 |case2 A t B u x r i=>
  simp only[List.cons_append,codeAmong]at e ⊢
  split at e
  ·rename_i H;rw[ai H];exact .inl e
  ·rename_i H;rw[aj H];exact i h e
 |case3 l f d=>exact h.elim
def BMain (M:bX)(b:Heap):Prop:=∃B o,M "__builtins__"=some (.ref B)/\B≠builtinsNs/\B≠mainGlobals/\b.get? B=some o/\o.cls=.type "module" /\ o.dict=some builtinsNs/\o.data=.plain
def X5 (q:Str)(p:Arguments)(b:Expr)(scope:Scope)(C:bZ):Obj->Addr->Obj->List V->Prop:=λob c o _=>(∃P v,ob=kla_obj "<lambda>" q p b scope C P c v)/\Ta o q
noncomputable def Qq (n:Nat)(q:Str)(P:Addr)(k:Nat)(p:Obj->Addr->Obj->List V->Prop):Ev:=λ_ A=>match A[n]? with|some (.tab Q P')=>if Q=q/\P'=P then .ok (.clo k [] p) A else .bad|_=>.bad
section
variable {k:Nat}{q:Str}{P c:Addr}{params:Arguments}{body:Expr}{oW:bZ}
def h8 (hB:BMain X.mg X.base)(y:X.env.code=.ref c)(C:CodeHd X.base c P)(hcl:closureFor scope X.env=pure oW)(hq:X.env.qual ++ "<lambda>"=q)(hdef:defaultsOf params X.env=([],[]):=by rfl):
  SE X xr (.Lambda params body scope o7) (Qq n q P k (X5 q params body scope oW)):=by
 intro o6 s σ H Q I ⟨φ,A,ρ,S,re,h⟩;unfold Qq at h;cases Z:A[n]? with
 |none=>rw[Z]at h;exact h.elim|some o=>
  rw[Z]at h;cases o with
  |tab L P'=>
   dsimp only at h
   by_cases hc:L=q/\P'=P
   ·rw[ai hc]at h
    obtain⟨rfl,rfl⟩:=hc;obtain⟨a,ha,eaP,ps,t,Y⟩:=S.ob n _ Z;subst eaP;have hP:s.heap.get? a=some (tabObj ps):=(show qX X.prog X.w H s.heap a (.tbl ps) from I.hok a _ t)
    have hg:s.heap.Ns mainGlobals X.mg:=I.mod.glob.keeps I.bk;have hgP:mainGlobals≠a:=λz=>by obtain⟨o,es,ep,e,hd,_⟩:=hg;rw[z,hP]at e;cases e;cases hd
    have r:s.heap.BuiltinsAt X.mg a:=by
     obtain⟨bm,o,b1,b2,b3,b4,b5⟩:=hB;refine⟨bm,o,b1,b2,b3,λz=>?_,I.bk _ _ b4,b5⟩
     have:=(I.bs _ _ b4).2
     rw[z,t]at this;cases this
    refine PySem.W.kla_eval hdef ?_;rw[hq];have M:∀b,s.heap.objs.size<=b->H b=none:=λb r=>I.hok.fresh r;cases hf:codeAmong o7 ps.toList with
    |none=>
     refine PySem.W.kla_makeFunction (mg:=X.mg) hcl I.ok.glob hg y (C.keeps I.bk) hP Y.1 hf hgP r λf ctv h' tk hx x U hrec htb=>?_;obtain⟨c2,g,vc,tc,ec,hoc,D,hd2⟩:=hrec;cases ec;generalize j:kla_obj "<lambda>" L params body scope oW ((X.mg "__name__").getD .none) f ctv=ob;have hPc:a<s.heap.objs.size:=aM hP;have nPc:a≠f:=aO (aJ hPc x);have nPf:a≠h'.objs.size:=aO (lt_trans (aJ hPc x) U);have T:f≠h'.objs.size:=aO U;have hsf:s.heap.objs.size<=h'.objs.size:=a4 x (bJ U);have E:H f=none:=M f x;have l:H h'.objs.size=none:=M _ hsf;have H1f:upd H f (.frz g (.own 0)) h'.objs.size=none:=by rw[qo (Ne.symm T)];exact l
     generalize B:ps++#[rawInt o7.line,rawInt o7.col,.ref f]=p at htb;have S1:=S.lay (u:=.frz g (.own 0)) E;have S2:=S1.lay (u:=.frz ob (.own 0)) H1f;have fz:∀b o u,upd (upd H f (.frz g (.own 0))) h'.objs.size (.frz ob (.own 0)) b=some (.frz o u)->upd (upd (upd H f (.frz g (.own 0))) h'.objs.size (.frz ob (.own 0))) a (.tbl p) b=some (.frz o u):=λb o u e=>by rw[qo];exact e;intro z;rw[z,qo nPf,qo nPc,t]at e;cases e
     have fz0:∀b o u,H b=some (.frz o u)->upd (upd H f (.frz g (.own 0))) h'.objs.size (.frz ob (.own 0)) b=some (.frz o u):=λb o u e=>by rw[qo (kM e l),qo (kM e E)];exact e
     have tg':Wz (upd (upd (upd H f (.frz g (.own 0))) h'.objs.size (.frz ob (.own 0))) a (.tbl p)) L p:=by
      rw[<- B];refine⟨by rw[Array.toList_append];exact TriplesOk_snoc _ _ _ _ Y.1,λoP cv e=>?_⟩
      rw[Array.toList_append]at e;rcases Ff _ Y.1 e with e|e
      ·obtain⟨c0,oc0,u0,vs0,t0,g1,g2,g3⟩:=Y.2 oP cv e
       exact⟨c0,oc0,u0,vs0,t0,g1,by rw[B];exact fz _ _ _ (fz0 _ _ _ g2),g3⟩
      ·exact⟨f,g,.own 0,vc,tc,e,by rw[B];exact fz _ _ _ (by rw[qo T,jR]),D,hd2⟩
     obtain⟨l3,S3⟩:=S2.write (o:=.tab L a) (o':=.tab L a) Z rfl rfl ha (u:=.tbl p) ⟨rfl,p,jR,tg'⟩;have l03:Le X.K φ H φ _:=((Le.new E).trans (Le.new H1f)).trans l3;have set3:A.set n (.tab L a)=A:=by
      apply ext_getElem?
      intro i
      by_cases hi:n=i
      ·subst hi
       rw[aw (cj.mp Z).1,Z]
      ·rw[au hi]
     rw[set3]at S3;have eP:upd (upd (upd H f (.frz g (.own 0))) h'.objs.size (.frz ob (.own 0))) a (.tbl p) a=some (.tbl p):=jR;have ec:upd (upd (upd H f (.frz g (.own 0))) h'.objs.size (.frz ob (.own 0))) a (.tbl p) f=some (.frz g (.own 0)):=by rw[qo (Ne.symm nPc),qo T,jR]
     have ef:upd (upd (upd H f (.frz g (.own 0))) h'.objs.size (.frz ob (.own 0))) a (.tbl p) h'.objs.size=some (.frz ob (.own 0)):=by rw[qo (Ne.symm nPf),jR]
     have J:∀b,b≠a->b≠f->b≠h'.objs.size->upd (upd (upd H f (.frz g (.own 0))) h'.objs.size (.frz ob (.own 0))) a (.tbl p) b=H b:=λb n1 n2 n3=>by rw[qo n1,qo n3,qo n2]
     generalize upd (upd (upd H f (.frz g (.own 0))) h'.objs.size (.frz ob (.own 0))) a (.tbl p)=H3 at S3 l03 eP ec ef J;have kp:∀b o,b≠a->s.heap.get? b=some o->(h'.push ob).get? b=some o:=λb o n e=>af _ (hx b o n e);have old:∀b o,s.heap.get? b=some o->b≠f/\b≠h'.objs.size:=λb o e=>⟨aO (aJ (aM e) x),aO (aJ (aM e) hsf)⟩;have N:∀b u,H b=some u->b≠f/\b≠h'.objs.size:=λb u e=>⟨kM e E,kM e l⟩;have gP:(h'.push ob).get? a=some (tabObj p):=af _ htb;have I3:Inv X o6 σ H3 { s with heap:=h'.push ob,toks:=tk }:=by
      refine I.un ⟨λb o e z r _=>?_,λb o e z r _=>?_,λb o e z _=>?_,λb o e _=>?_,λb xs e=>?_,λb o u e=>?_,λb qs e=>?_⟩ λb u e=>?_
      ·exact kp b o (λw=>by rw[w,t]at z;cases z) e
      ·exact⟨o.slots,kp b o (λw=>by rw[w,t]at z;cases z) e⟩
      ·rw[J b (λw=>by rw[w,t]at z;cases z) (old b o e).1 (old b o e).2];exact z
      ·by_cases r:b=a
       ·rw[r];exact⟨_,gP⟩
       ·exact⟨o,kp b o r e⟩
      ·rw[J b (YC e t (by intro w;cases w)) (N b _ e).1 (N b _ e).2];exact e
      ·rw[J b (YC e t (by intro w;cases w)) (N b _ e).1 (N b _ e).2];exact e
      ·by_cases r:b=a
       ·subst r
        rw[t]at e;cases e;exact⟨_,by rw[eP,<- B]⟩
       ·exact⟨#[],by rw[J b r (N b _ e).1 (N b _ e).2,e];simp⟩
      ·by_cases h1:b=a
       ·subst h1
        rw[eP]at e;cases e;exact gP
       ·by_cases h2:b=f
        ·subst h2
         rw[ec]at e;cases e;exact⟨af _ hoc,⟨_,af _ hoc⟩⟩
        ·by_cases h3:b=h'.objs.size
         ·subst h3
          rw[ef]at e;cases e;exact⟨aC _ (by rw[<- j];rfl),⟨_,aC _ (by rw[<- j];rfl)⟩⟩
         ·rw[J b h1 h2 h3]at e
          refine(I.hok b u e).stay (λd v hd z=>kp d v ?_ z) (λd z=>?_) λd xs z=>?_
          ·rcases hd with w|w
           ·rw[w];exact h1
           ·exact YC w t (by intro w;cases w)
          ·rw[J d (YC z t (by intro w;cases w)) (N d _ z).1 (N d _ z).2];exact z
          ·rw[J d (YC z t (by intro w;cases w)) (N d _ z).1 (N d _ z).2];exact z
     exact⟨.ref h'.objs.size,H3,I3,rfl,h φ H3 _ l03 S3 ⟨h'.objs.size,ob,.own 0,f,g,.own 0,[],rfl,ef,ec,⟨⟨_,_,j.symm⟩,vc,tc,D,hd2⟩,rfl⟩⟩
    |some cv=>
     obtain⟨f,g,u0,vc,tc,rfl,hHc,D,hd2⟩:=Y.2 o7 cv hf;refine PySem.W.kla_makeFunctionHit (mg:=X.mg) hcl I.ok.glob hg y (C.keeps I.bk) hP Y.1 hf r λctv h' tk hx hsz=>?_;generalize j:({ cls:=.type "function",data:=.func (kla_fn "<lambda>" L params body scope oW ((X.mg "__name__").getD .none) (.ref f) ctv) }:Obj)=ob;have l:H h'.objs.size=none:=M _ hsz;have I3:Inv X o6 σ (upd H h'.objs.size (.frz ob (.own 0))) { s with heap:=h'.push ob,toks:=tk }:=
      I.laid (λb o e=>af _ (hx b o e)) hsz ⟨aC _ (by rw[<- j];rfl),⟨_,aC _ (by rw[<- j];rfl)⟩⟩
     refine⟨.ref h'.objs.size,_,I3,rfl,h φ _ _ (Le.new l) (S.lay l) ⟨h'.objs.size,ob,.own 0,f,g,u0,[],rfl,jR,?_,⟨⟨_,_,j.symm⟩,vc,tc,D,hd2⟩,rfl⟩⟩;rw[qo (kM hHc l)];exact hHc
   ·rw[aj hc]at h;exact h.elim
  |_=>exact h.elim
end
structure Lm where
 N:bU
 idx:bS
 params:Arguments
 body:Expr
 scope:Scope
 m:Ev
noncomputable def gF:List Nat->En->Option (List W)
 |[],_=>some []|j::J,ρ=>match ρ[j]?,gF J ρ with|some (some w),some ws=>some (w::ws)|_,_=>none
noncomputable def ZU:List Nat->St->Option (List V)
 |[],_=>some []|j::J,σ=>match σ[j]?,ZU J σ with|some (some w),some ws=>some (w::ws)|_,_=>none
theorem Ul {K:Frag}(r:RE K φ H ρ σ):∀{J:bS}{d:List W},gF J ρ=some d->∃vs,ZU J σ=some vs/\zE K φ H d vs
 |[],d,e=>by cases e;exact⟨[],rfl,.nil⟩|j::J,d,e=>by
  unfold gF at e;cases E:ρ[j]? with
  |none=>rw[E]at e;cases e|some ow=>cases ow with
   |none=>rw[E]at e;cases e|some w=>
    rw[E]at e;cases a:gF J ρ with
    |none=>rw[a]at e;cases e|some b=>
     rw[a]at e;cases e;obtain⟨v,g,f⟩:=r.get j w E;obtain⟨vs,c,h⟩:=Ul r a;exact⟨v::vs,by unfold ZU;rw[g,c],.cons f h⟩
theorem ON:∀{J:bS}{f:List V},ZU J σ=some f->f.length=J.length/\∀(i:Nat)(v:V),f[i]? =some v->∃j,J[i]? =some j/\σ[j]? =some (some v)
 |[],f,e=>by cases e;exact⟨rfl,λi v h=>by simp at h⟩|j::J,f,e=>by
  unfold ZU at e;cases E:σ[j]? with
  |none=>rw[E]at e;cases e|some ow=>cases ow with
   |none=>rw[E]at e;cases e|some w=>
    rw[E]at e;cases r:ZU J σ with
    |none=>rw[r]at e;cases e|some c=>
     rw[r]at e;cases e;obtain⟨g,H⟩:=ON r;refine⟨by simp[g],λi v h=>?_⟩
     cases i with|zero=>simp at h;subst h;exact⟨j,by simp,E⟩|succ i=>simp at h;obtain⟨d,a,b⟩:=H i v h;exact⟨d,by simpa using a,b⟩
noncomputable def w6 (l:List Lm)(k:Nat):Fn:=λw A=>match l[k]? with|some t=>t.m (w.map some) A|none=>.bad
def gJ (e:Env)(q:Str)(l:List Lm)(k:Nat):Obj->Addr->Obj->List V->Prop:=λob c o v=>∃t,l[k]? =some t/\X5 q t.params t.body t.scope (kC e t.scope.names []) ob c o v
def gf (e:Env)(q:Str)(l:List Lm)(a:St)(k:Nat):Obj->Addr->Obj->List V->Prop:=λob c o v=>∃t,l[k]? =some t/\X5 q t.params t.body t.scope (kC e t.scope.names []) ob c o v/\ZU t.idx a=some v
structure X8 (P:Program)(w:World)(K:Frag)(mg:bX)(j:Nat)(q:Str)(t:Lm):Prop where
 sc:GK t.N t.scope
 bind:∀(cl:bZ)(pm cdv ctv:Value),bindArgs (kla_fn "<lambda>" q t.params t.body t.scope cl pm cdv ctv) ⟨[],[]⟩=pure []
 body:∀(base:Heap)(cl:bZ)(a c:Addr)(A:Around)(outer:bY)(s:Shared)(H:Hp)(E:XK),jd j (A.deeper (envX q t.scope s.heap.objs.size a (.ref c) cl))->wm (kx P w K mg base t.N q t.scope a (.ref c) cl A outer s H E) s.heap (yT K E)->
  SE (kx P w K mg base t.N q t.scope a (.ref c) cl A outer s H E) (yT K E) t.body t.m
abbrev gZ:=Nat->Obj->Addr->Obj->List V->Prop
open Classical in
def Qn (PG:gZ)(r:Nat->List W->Hx->R W):Fn:=λu A=>match u with|[.clo k ws P]=>if P=PG k then r k ws A else .bad|_=>.bad
open Classical in
structure XQ (X:Cx)(t:Lm):Prop where
 len:t.idx.length=t.N.length
 nm:∀(i:Nat)(x:Str)(j:Nat),t.N[i]? =some x->t.idx[i]? =some j->X.N[j]? =some x/\t.scope.names.lookup x=some .free
 free:∀y∈t.scope.names,y.2=.free->X.env.kindOf y.1=some .cell∨X.env.kindOf y.1=some .free
section
variable {s:Shared}
def GB (I:Inv X o6 σ H s){t:Lm}(L:XQ X t){c:Addr}(h:(kC X.env t.scope.names []).lookup x=some c):X.env.cells.lookup x=some c:=by
 rcases Jd _ _ (PySem.mem_of_lookup h) with z|⟨z,e⟩
 ·cases z
 ·obtain⟨C,a⟩:=I.ok.has x (L.free _ z rfl)
  rw[a]at e ⊢;exact congrArg some e.symm
def OP (I:Inv X o6 σ H s)(d:∀x c v,X.env.cells.lookup x=some c->s.heap.IsCell c v->base.IsCell c v){t:Lm}(L:XQ X t)(g:ZU t.idx σ=some vs):ZJ base t.N t.scope (kC X.env t.scope.names []) vs:=by
 obtain⟨B,A⟩:=ON g;refine⟨B.trans L.len,λx y c w q=>I.ok.inj x y c (GB I L w) (GB I L q),λx h=>?_,λx c h=>?_,λi x v w q=>?_⟩
 ·exact Option.isSome_iff_exists.mp (Gj _ _ (.inl (PySem.mem_of_lookup h)))
 ·have e:=GB I L h
  obtain⟨v,z⟩:=I.cell x c e;exact⟨v,d x c v e z⟩
 ·obtain⟨j,p,o⟩:=A i v q
  obtain⟨n,E⟩:=L.nm i x j w p;have fr:=L.free _ (PySem.mem_of_lookup E) rfl;obtain⟨m,J,l⟩:=I.loc;obtain⟨u,r,D⟩:=l j x v n o (.inr fr);obtain⟨c,b⟩:=Option.isSome_iff_exists.mp (Gj (env:=X.env) t.scope.names [] (.inl (PySem.mem_of_lookup E)));have f:=GB I L b;rcases D with ⟨z,_⟩|⟨_,C,a,cell⟩
  ·exfalso
   rcases fr with k|k<;>(rw[k]at z;cases z)
  ·rw[f]at a
   cases a;exact⟨c,u,E,b,d x c _ f cell,r⟩
def h9 (I:Inv X o6 σ H s)(h:∀x,X.fn x=true){c:Addr}(e:X.env.cells.lookup x=some c):c∉qE X.stack:=λb=>by
 rcases cm.mp (I.stkSub c b) with z|z
 ·exact I.cne x c e z
 ·obtain⟨_,o,a,_⟩:=I.ok.funs.mem z
  exact absurd (aJ (aM a) (I.ok.cab x c (h x) e)) (aS _)
noncomputable def gA (B h:Heap)(c:bZ):Heap:=hideAll h ((List.range h.objs.size).filter λb=>(B.get? b).isNone&&!(c.any λp=>c.lookup p.1==some b))
def OX {o:Obj}(e:(gA base h oR).get? b=some o):h.get? b=some o/\((∃o',base.get? b=some o')∨∃x,oR.lookup x=some b):=by
 have E:=of_hideAll _ e;refine⟨E,?_⟩
 by_cases d:b∈(List.range h.objs.size).filter λb=>(base.get? b).isNone&&!(oR.any λp=>oR.lookup p.1==some b)
 ·unfold gA at e
  rw[hideAll_none _ d]at e;cases e
 ·rw[mem_filter]at d
  have c:b∈List.range h.objs.size:=cf.mpr (aM E);cases g:base.get? b with
  |some o'=>exact .inl ⟨o',rfl⟩|none=>
   right
   by_cases H:(oR.any λp=>oR.lookup p.1==some b)=true
   ·obtain⟨p,_,a⟩:=List.any_eq_true.mp H
    exact⟨p.1,aK.mp a⟩
   ·exact absurd ⟨c,by rw[g];simpa using H⟩ d
def EH (k:∀b o,base.get? b=some o->h.get? b=some o){o:Obj}(e:base.get? b=some o):(gA base h oR).get? b=some o:=
 bH _ (k b o e) λH=>by rw[mem_filter,e]at H;simp at H
def Pm {c:Addr}{o:Obj}(l:oR.lookup x=some c)(e:h.get? c=some o):(gA base h oR).get? c=some o:=
 bH _ e λH=>by
  rw[mem_filter,ak,not_eq_true']at H
  have:=H.2.2
  rw[List.any_eq_false]at this;exact this _ (PySem.mem_of_lookup l) (by simpa using l)
variable {j:Nat}
end
inductive spT (K:Frag)(n:Nat)(fs:gZ->Fn)(vs:List V)(H:Hp)(Q:VK)(E:XK):Prop
 |mk (len:vs.length=n) (φ:bQ) (A:Hx) (ws:List W) (S:zL K φ A H) (r:zE K φ H ws vs) (q:∀PF,(fs PF ws A).post (PB K φ H Q) (EB K φ H (XE K E)))
def spT.len {K:Frag}{fs:gZ->Fn}{Q:VK}{E:XK}(h:spT K n fs vs H Q E):vs.length=n:=by cases h;assumption
section
variable {K:Frag}
def Cy {c:Addr}{a:Value}{o:b8}(n:nsIn K mainGlobals x=some (some (.ref f)))(l:K.lookup f=some ⟨a,o,.func fd,oX⟩)(H:tabIn K x=some (c,Pt)):fd.code=.ref c:=by
 unfold tabIn at H;rw[n]at H;dsimp only at H;rw[l]at H;dsimp only at H
 split at H
 ·rename_i c2 h
  split at H
  ·split at H
   ·cases H;exact h
   ·cases H
  ·cases H
 ·cases H
def ia {q:Str}{J:Stmt}{c:Addr}{ps:bU}{k:Nat}{ls:List Lm}{m:gZ->Ex}(F:kL K x x J f fd)(hn:nsIn K mainGlobals x=some (some (.ref f)))(Z:tabIn K x=some (c,Pt))(S:kO N ps (qf J))
  (a:∀(A:Around)(D:bY)(s:Shared)(H:Hp)(E:XK),jd k (A.deeper (envOfC x (qf J) s.heap.objs.size f (.ref c)))->
   JO (yO kq P w K mg base N x (qf J) f (.ref c) A D s H E).nox jO (jV J) (m (gJ (envOfC x (qf J) s.heap.objs.size f (.ref c)) q ls))):
  yh P w K mg base kq (k+1) f fd ps (spT K ps.length λp=>qm N.length (m p)):=by
 obtain⟨z,u,kV,doc,pm,an,C,ct,o,rfl,U,d⟩:=F.ex;have v:C=.ref c:=Cy hn U Z;subst v;refine Sg U d S (λY H Q E h=>h.len) λA D s H Y Q E i ⟨B,M,X,L,j,r,h⟩=>⟨_,yJ.nox (a A D s H E i),?_⟩;refine⟨M,X,L.map some++List.replicate (N.length-L.length) none,j,RE.start r,?_⟩;have I:=zS.mp (h (gJ (envOfC x (qf J) s.heap.objs.size f (.ref c)) q ls));show R.post _ (FB K M H _) _;cases e:m (gJ (envOfC x (qf J) s.heap.objs.size f (.ref c)) q ls) (L.map some++List.replicate (N.length-L.length) none) X with
 |ok fl A2=>
  rw[e]at I;cases fl with|rt w=>exact I|nx T=>exactλb t g l n _=>I b t .non l n rfl|bk T=>exact I.elim|ct T=>exact I.elim
 |exc y A2=>rw[e]at I;exact I.elim|bad=>rw[e]at I;exact I.elim
end
noncomputable def Xi (K:Frag)(x:Str)(p:Addr):Bool:=match tabIn K x with|some (c,P)=>P==p&&codeHdIn K c p|none=>false
set_option tactic.hygienic true in
def Gw {K:Frag}(h:Xi K x Pt=true):∃c,tabIn K x=some (c,Pt)/\codeHdIn K c Pt=true:=by
 unfold Xi at h
 split at h
 ·rename_i c P e
  rw[ak,aK]at h;obtain⟨rfl,H⟩:=h;exact⟨c,e,H⟩
 ·cases h
def ym.m {K:Frag}{k:Nat}{f:Fn}(F:ym P w K mg base k x n f):qG P w K mg base k x n λws A=>(f ws A).nox:=by
 obtain⟨fa,C,ps,F,q,c,d⟩:=F;have up:∀g H Q E,g9 K n (λws A=>(f ws A).nox) g H Q E->Vh K n f g H Q (λ_ _ _=>False):=λg H Q E ⟨l,p,A,ws,S,r,h⟩=>⟨l,p,A,ws,S,r,by
  cases a:f ws A with|ok u D=>(try dsimp only at h);rw[a]at h;exact h|exc y D=>(try dsimp only at h);rw[a]at h;exact h.elim|bad=>(try dsimp only at h);rw[a]at h;exact h.elim⟩
 refine⟨fa,C,ps,⟨λg H Q E h=>F.len g H Q _ (up g H Q E h),λA o s H i U g Q E b B t v h=>?_⟩,q,c,d⟩;refine codeAny_mono (F.run A o s H i U g Q _ b B t v (up g H Q E h)) λr I j=>?_;cases r with
 |error e=>
  unfold CR at j;obtain⟨_,_,_,_,_,_,_,_,_,_,z⟩:=j;exact z.elim
 |ok fl=>cases fl<;>exact j
theorem ym.mono {K:Frag}{j k:Nat}{f:Fn}(F:ym P w K mg base j x n f)(h:j<=k):ym P w K mg base k x n f:=by cases F with|mk fa d ps F a b c=>exact⟨fa,d,ps,F.mono h,a,b,c⟩
noncomputable abbrev Vc:bP:=[.type "ValueError",.type "Exception",.type "BaseException",.type "object"]
noncomputable abbrev XT:String := "ValueError.__new__"
section
variable {K:Frag}{cs:bU}{top nm:Str}
noncomputable def clsAt (K:Frag)(x:Str):Addr:=match nsIn K mainGlobals x with|some (some (.ref C))=>C|_=>0
def isAt (K:Frag)(x:Str):Bool:=nsIn K mainGlobals x==some (some (.ref (clsAt K x)))
noncomputable def yS (c:bU)(x:Str):Str->Option Bool:=λnm=>if c.contains nm then some (nm==x) else none
noncomputable def Rc (c:bU):Str->Option Bool:=λnm=>if c.contains nm then some true else none
def QP (K:Frag)(c:bU)(x:Str):Bool:=isAt K x&&kitOne K (.type "NoneType") (.ref (clsAt K x))==some false&&c.all λnm=>kitOne K (.ref (clsAt K nm)) (.ref (clsAt K x))==some (nm==x)
def Xf (K:Frag)(top nm:Str):Bool:=isAt K nm&&KY K (clsAt K nm)&&Mi.Zr K (clsAt K nm) Vc XT&&JI K (clsAt K nm) (clsAt K top)&&kitOne K (.ref (clsAt K nm)) (.type "ValueError")==some true
def TQ (K:Frag)(top:Str):Bool:=isAt K top&&Mi.Zr K (clsAt K top) Vc XT&&kitOne K (.type "NoneType") (.type "ValueError")==some false
def UR (h:isAt K x=true):ki K x (.ref (clsAt K x)):=aK.mp h
def UC {C:Addr}(h:ki K x (.ref C)):C=clsAt K x:=by unfold clsAt;unfold ki at h;rw[h]
structure Uw (K:Frag)(top nm:Str):Prop where
 at_:ki K nm (.ref (clsAt K nm))
 kit:KY K (clsAt K nm)=true
 exc:Mi.Zr K (clsAt K nm) Vc XT=true
 up:JI K (clsAt K nm) (clsAt K top)=true
 val:kitOne K (.ref (clsAt K nm)) (.type "ValueError")=some true
def ib (h:Xf K top nm=true):Uw K top nm:=by unfold Xf at h;simp only[ak,aK]at h;obtain⟨⟨⟨⟨d,c⟩,b⟩,a⟩,H⟩:=h;exact⟨UR d,c,b,a,H⟩
structure w8 (K:Frag)(cs:bU)(top:Str):Prop where
 exc:∀nm,cs.contains nm=true->Uw K top nm
 top_at:ki K top (.ref (clsAt K top))
 top_exc:Mi.Zr K (clsAt K top) Vc XT=true
 non:kitOne K (.type "NoneType") (.type "ValueError")=some false
def ic (h:cs.all (Xf K top ·)=true)(t:TQ K top=true):w8 K cs top:=by unfold TQ at t;simp only[ak,aK]at t;obtain⟨⟨b,T⟩,a⟩:=t;exact⟨λnm e=>ib (cu.mp h nm (List.contains_iff_mem.mp e)),UR b,T,a⟩
def w8.isx (c:w8 K cs top)(h:QP K cs x=true):K7 K (yS cs x) (.ref (clsAt K x)):=by
 unfold QP at h;simp only[ak,aK]at h;obtain⟨⟨g,f⟩,a⟩:=h;refine⟨f,λnm C b e H=>?_⟩;unfold yS at e
 by_cases d:cs.contains nm=true
 ·rw[ai d]at e
  cases e;cases UC H;exact⟨(c.exc nm d).kit,aK.mp (cu.mp a nm (List.contains_iff_mem.mp d))⟩
 ·rw[aj d]at e;cases e
def kE (h:QP K cs x=true):ki K x (.ref (clsAt K x)):=by unfold QP at h;simp only[ak,aK]at h;exact UR h.1.1
def w8.isv (c:w8 K cs top):K7 K (Rc cs) (.type "ValueError"):=by
 refine⟨c.non,λnm C b e h=>?_⟩;unfold Rc at e
 by_cases H:cs.contains nm=true
 ·rw[ai H]at e
  cases e;cases UC h;exact⟨(c.exc nm H).kit,(c.exc nm H).val⟩
 ·rw[aj H]at e;cases e
def w8.under (c:w8 K cs top):∀nm,cs.contains nm=true->∀C,ki K nm (.ref C)->∃b n,Mi.Zr K C b n=true/\JI K C (clsAt K top)=true:=λnm H C h=>by cases UC h;exact⟨_,_,(c.exc nm H).exc,(c.exc nm H).up⟩
end
noncomputable def Wh (M:bU)(S:Scope)(t:Lm):Bool:=t.idx.length==t.N.length&&((List.range t.N.length).all λi=>match t.N[i]?,t.idx[i]? with|some x,some j=>M[j]?==some x&&t.scope.names.lookup x==some .free|_,_=>false)&&t.scope.names.all λy=>!(y.2==.free) || (S.names.lookup y.1==some .cell || S.names.lookup y.1==some .free)
def G1 {t:Lm}(h:Wh X.N X.env.scope t=true):XQ X t:=by
 unfold Wh at h;rw[ak,ak]at h;obtain⟨⟨f,d⟩,b⟩:=h;refine⟨aK.mp f,λi x j E c=>?_,λy H e=>?_⟩
 ·have a:i<t.N.length:=(cj.mp E).1
  have q:=cu.mp d i (cf.mpr a);rw[E,c]at q;dsimp only at q;rw[ak]at q;exact⟨aK.mp q.1,aK.mp q.2⟩
 ·have q:=cu.mp b y H
  rw[e]at q;rw[a3,a3]at q;rcases q with q|q|q
  ·cases q
  ·exact .inl (aK.mp q)
  ·exact .inr (aK.mp q)
def ie {q:Str}{l:List Lm}{k:Nat}{t:Lm}(H:l[k]? =some t):gJ env q l k=X5 q t.params t.body t.scope (kC env t.scope.names []):=by
 funext ob c o vs
 refine propext ⟨λ⟨T,e,h⟩=>?_,λh=>⟨t,H,h⟩⟩;rw[H]at e;cases e;exact h
section
variable {k:Nat}{q:Str}{c:Addr}{ls:List Lm}{t:Lm}
def Nv (i:ls[k]? =some t)(L:Wh X.N X.env.scope t=true)(B:BMain X.mg X.base)(a:X.env.code=.ref c)(C:CodeHd X.base c Pt)(d:X.env.qual ++ "<lambda>"=q)(f:defaultsOf t.params X.env=([],[])):
  SE X xr (.Lambda t.params t.body t.scope o7) (Qq n q Pt k (gJ X.env q ls k)):=by
 intro p s g H Q I h;rw[ie i]at h;exact h8 B a C (PD λy b e=>I.ok.has _ ((G1 L).free y b e)) d f p s g H Q I h
end
noncomputable def Z8:Stmt:=.Pass ⟨0,0,0,0⟩
noncomputable def ZO:Expr:=.Constant .none 0 ⟨0,0,0,0⟩
def XY (s:Stmt)(i:Nat):Stmt:=match s with|.For _ _ b _ _=>b.getD i Z8|.If _ b _ _=>b.getD i Z8|.While _ b _ _=>b.getD i Z8|_=>Z8
def ig (s:Stmt):Expr:=match s with|.Assign _ v _=>v|.Expr v _=>v|.Return (some v) _=>v|_=>ZO
def YN (e:Expr)(i:Nat):Expr:=match e with|.Call _ a _ _=>a.getD i ZO|.List E _=>E.getD i ZO|.Tuple E _ _=>E.getD i ZO|.BinOp a _ b _=>if i=0 then a else b|_=>ZO
noncomputable def ih (e:Expr):Arguments:=match e with|.Lambda a _ _ _=>a|_=>{ posonlyargs:=[],args:=[],vararg:=none,kwonlyargs:=[],kw_defaults:=[],kwarg:=none,defaults:=[] }
def ij (e:Expr):Expr:=match e with|.Lambda _ b _ _=>b|_=>ZO
noncomputable def ik (e:Expr):Scope:=match e with|.Lambda _ _ s _=>s|_=>{ kind:=.function,names:=[],isGenerator:=false,isCoroutine:=false }
def Wj (e:Expr)(N:bU)(i:bS)(m:Ev):Lm:=⟨N,i,ih e,ij e,ik e,m⟩
def il {K:Frag}{S:Stmt}{ps:bU}{k:Nat}(F:kL K x x S f fd)(e:mg x=some (.ref f))
  (b:∀(kV d p:Value)(n:b8)(c ct:Value)(u:bP),u.length=ps.length->bindArgs (fnOf x x (gU S) (jV S) (qf S) .none kV d p n c ct) ⟨u,[]⟩=pure (ps.zip u)):qG P w K mg base k x ps.length (λ_ _=>.bad):=
 ⟨f,fd,ps,⟨λv H Q E h=>h.1,λA o s H a u v Q E _ _ _ _ h=>by obtain⟨_,_,_,_,_,_,z⟩:=h;exact z.elim⟩,e,F.kp,F.binds b⟩
def AR {K:Frag}(t a b:Ty):kitAny K (.type t.nm) [.type a.nm,.type b.nm]=some (km t a || km t b):=by
 unfold kitAny;rw[GV];cases km t a with
 |true=>rfl|false=>
  dsimp only;unfold kitAny;rw[GV];cases km t b<;>rfl
section
variable {a b:Expr}{m ma mb:Ev}
def JN.kitx {s:Shared}{x:V}{t:Ty}(I:Inv X o6 σ H s)(r:RelV x u)(h:JN X.K H x t):∃b:Heap->Prop,PySem.W.KitX X.K u (.type t.nm) b/\b s.heap/\u≠.builtin "__main__.__loader__#opaque":=by
 rcases h with h|⟨a,xs,rfl,h,rfl⟩
 ·generalize hT:Value.type t.nm=T at h
  cases h with
  |non=>cases (show u=Value.none from r);exact⟨_,kitx_none,True.intro,λz=>nomatch z⟩
  |bl y=>cases (show u=Value.bool y from r);exact⟨_,kitx_bool,True.intro,λz=>nomatch z⟩
  |int i=>obtain⟨t,q⟩:=(show ∃t,u=Value.int i t from r);cases q;exact⟨_,kitx_int,True.intro,λz=>nomatch z⟩
  |str y=>obtain⟨t,q⟩:=(show ∃t,u=Value.str y t from r);cases q;exact⟨_,kitx_str,True.intro,λz=>nomatch z⟩
  |flt y=>obtain⟨t,q⟩:=(show ∃t,u=Value.float y t from r);cases q;exact⟨_,kitx_float,True.intro,λz=>nomatch z⟩
  |@lst a xs ea=>
   cases (show u=Value.ref a from r)
   obtain⟨_,_,n,_,d⟩:=(show qX X.prog X.w H s.heap a (.lst xs) from I.hok a _ ea)
   exact⟨_,kitx_list,⟨_,d,rfl⟩,λz=>nomatch z⟩
  |@frz a ob xs ea=>
   cases (show u=Value.ref a from r)
   obtain⟨_,_,_,n,_,d⟩:=(show qX X.prog X.w H s.heap a (.frz ob (.lst xs)) from I.hok a _ ea)
   exact⟨_,kitx_list,⟨_,d,rfl⟩,λz=>nomatch z⟩
  |@tup a xs ea=>
   cases (show u=Value.ref a from r)
   obtain⟨_,_,_,p⟩:=(show qX X.prog X.w H s.heap a (.tup xs) from I.hok a _ ea)
   obtain⟨o,d,e,_⟩:=p;exact⟨_,kitx_tuple,⟨o,d,e.1⟩,λz=>nomatch z⟩
  |@dK a kvs ea=>
   cases (show u=Value.ref a from r)
   obtain⟨_,_,_,_,o,_,_,d,e,_⟩:=(show qX X.prog X.w H s.heap a (.dK kvs) from I.hok a _ ea)
   exact⟨_,kitx_dict,⟨o,d,e.1⟩,λz=>nomatch z⟩
  |@dT a kvs ea=>
   cases (show u=Value.ref a from r)
   obtain⟨_,_,_,_,o,_,_,d,e,_⟩:=(show qX X.prog X.w H s.heap a (.dT kvs) from I.hok a _ ea)
   exact⟨_,kitx_dict,⟨o,d,e.1⟩,λz=>nomatch z⟩
  |ins=>cases hT
 ·cases (show u=Value.ref a from r)
  obtain⟨c,_,⟨o,d,e,_⟩,_⟩:=I.tuple h;exact⟨_,kitx_tuple,⟨o,d,e⟩,λz=>nomatch z⟩
def ip (K:Frag)(a b:Ty):List V->Hp->VK->Prop:=λX H Q=>∃x t l,X=[x,.ref l]/\qA K H l [.ty (Ty.nm a),.ty (Ty.nm b)]/\JN K H x t/\Q (.bl (km t a || km t b)) H
def Bq {a b:Ty}:j9 X (.builtin "isinstance") (ip X.K a b):=by
 intro P s L H M S Q I r h;obtain⟨x,t,l,rfl,w,D,q⟩:=h;obtain⟨u,e,rfl,f,c⟩:=vals2 r;cases (show e=Value.ref l from c)
 obtain⟨p,v,⟨o,J,E,k,y⟩,_⟩:=I.tuple w;obtain⟨d,U,rfl,i,g⟩:=vals2 v;cases (show d=Value.type a.nm from i)
 cases (show U=Value.type b.nm from g)
 obtain⟨C,Z,z,N⟩:=D.kitx I f;obtain⟨n,B,j,A⟩:=o;cases (show n=_ from E)
 cases (show j=_ from y)
 exact PySem.W.kia_tup Z I.kIn z J (AR t a b) N λT=>⟨.bl (km t a || km t b),H,I.tok T,rfl,q⟩
def X6 (t T:Ty)(m:Ev):Ev:=λc A=>(m c A).bind λw b=>match j6 w b with
 |some a=>.ok (.bl (km a t || km a T)) b
 |none=>.bad
def Q0 (m:Ev)(t:Tg):Ex:=λb A=>(m b A).bind λw c=>match t w b with|some a=>.ok (.nx a) c|none=>.bad
def XD (i j:Nat)(b M:Ev):Ex:=λa A=>(b a A).bind λx d=>(M a d).bind λy c=>.ok (.nx ((a.set i (some x)).set j (some y))) c
end
open Classical in
def Jl:W->W->Hx->R W:=λx y A=>match x,y with
 |.ref n,.ref k=>match A[n]?,A[k]? with|some (.lst ws),some (.lst us)=>if ws.length+us.length<=zT then .ok .non (A.set n (.lst (ws++us))) else .bad|_,_=>.bad
 |_,_=>.bad
def Cd:∀x y A,qT (Jl x y A):=λx y A=>by
 unfold Jl
 split
 ·split
  ·exact ZM jY jc
  ·exact jc
 ·exact jc
section
variable {prog:Program}{A:Around}{s:Shared}
noncomputable abbrev Zq (l:Bool):Obj:={ cls:=.type "set",dict:=none,data:=.set #[] 0 (.fresh 0 0 l) }
noncomputable abbrev Qt (n:bN)(k:Nat):bN:=firstMet (λi=>n.getD i 0) k
def FH {L:Bool}{t:Addr}(q:A.handled=none)(X:s.heap.IsTuple t oI.toArray)(j:IntsAre oI ns)(r:oI.length+1<scanBound)
  (h:∀(I:Heap)(d:Nat),I.SetOf (intKind prog w) s.heap.objs.size (λk=>(Qt ns oI.length).any (·==k)) (Qt ns oI.length).length->
   (∀b o,b<s.heap.objs.size->s.heap.get? b=some o->I.get? b=some o)->Q .none { s with heap:=I,toks:=d }):
  codeAny (model prog w) A (.call (.builtin "set.__init__") ⟨[.ref s.heap.objs.size,.ref t],[]⟩) (wants Q E) { s with heap:=s.heap.push (Zq L) }:=by
 have gS:(s.heap.push (Zq L)).get? s.heap.objs.size=some (Zq L):=aC _ rfl;refine codeAny_call_builtin F.called_set.init.plain F.entry_set_init (check_set_init_1 ⟨_,gS,rfl⟩ ?_);obtain⟨ob,K,J,n,H⟩:=X;obtain⟨C,B,g,f⟩:=ob;dsimp only at J H;cases J;cases H;have Y:=af (Zq L) K;have n1:=F.sub_tuple_set;have N:=F.sub_tuple_frozenset;have n3:(Value.type "tuple" == Value.type "dict")=false:=by decide
 have T1:(s.heap.push (Zq L)).IsTuple t oI.toArray:=⟨_,Y,rfl,n,rfl⟩;unfold Builtin.«set.__init__» noKeywords Builtin.Frozenset.updateFrom;generalize p:pyIter=PI
 wp_walk
 subst p;refine wpAny_pyIter_tuple T1 (cb (wpAny_runValue ?_));have lt:t<s.heap.objs.size:=aM K;have sz:(s.heap.push (Zq L)).objs.size=s.heap.objs.size+1:=bp ..;have U:t≠(s.heap.push (Zq L)).objs.size:=by rw[sz];exact aO (bg lt)
 have W:=(Walks.tuple (prog:=prog) (w:=w) (A:=A.in1.in1) (by simp[q]) (s.heap.push (Zq L)).objs.size t U oI.toArray).toS
 have c:oI.toArray.size=oI.length:=aD;rw[c]at W;have off:s.heap.objs.size∉[(s.heap.push (Zq L)).objs.size,t]:=by
  rw[sz];intro D;rcases cm.mp D with z|D
  ·exact aO (bz _) z
  ·exact ne_of_gt lt (cw.mp D)
 refine codeAny_set_update_loopS W s.heap.objs.size off (λi=>ns.getD i 0) (λi v e=>IntsAre.int_at j i v (by simpa using e)) r oI.length 0 _ rfl (zero_le _) ⟨⟨_,aC _ rfl,rfl,rfl⟩,T1.push _⟩ ?_ ?_
 ·exact SetOf_congr ((setObjOf_fresh (knd:=intKind prog w) L).setOf (af _ gS) (by unfold scanBound;lia)) (λ_=>rfl) rfl
 ·intro P M S
  obtain⟨I,Z,d',T,a⟩:=P;have y:Z=s.gens:=M.gens;have x:d'=s.drawn:=M.drawn;have u:a=s.os:=M.os;subst y x u;refine cg ?_;show wpAny _ _ (ret Value.none) _ _ _;refine cg (h I T S λb o l e=>M.heap b o (λD=>?_) (af _ (af _ e)));rcases cm.mp D with z|D
  ·exact aO l z
  ·exact aO (bg l) ((cw.mp D).trans sz)
def FL {t:Addr}(l:A.handled=none)(J:s.heap.IsTuple t oI.toArray)(j:IntsAre oI ns)(n:oI.length+1<scanBound)
  (h:∀(C:Heap)(a:Nat),C.SetOf (intKind prog w) s.heap.objs.size (λk=>(Qt ns oI.length).any (·==k)) (Qt ns oI.length).length->
   (∀b o,b<s.heap.objs.size->s.heap.get? b=some o->C.get? b=some o)->Q (.ref s.heap.objs.size) { s with heap:=C,toks:=a }):
  wpAny (model prog w) A (call (.type "set") [.ref t]) Q E s:=by
 obtain⟨c,p,g⟩:=F.called_set.mro;have M:=F.called_set.made;have a2:=F.called_set.sub;have z:=F.called_set.notType;have y:=F.called_set.canCreate;have x:=F.typeCall_set_1 (.ref t);refine wpAny_call (codeAny_of_tree ?_);show wpAny _ _ (callAny (.type "set") _) _ _ _;refine cg ⟨Code.quiet_builtin _ (by decide +kernel),codeAny_builtin F.entry_type_call ?_⟩
 rw[Around.under_plain (weight_type_call_type "set" [.ref t] []) rfl]
 repeat (any_goals (first|assumption|wp_step))
 refine codeAny_mono (code_set_new_1 (.ref t) (E:=E) (Q₁:=λu I=>∃L,u=.ref s.heap.objs.size/\I={ s with heap:=s.heap.push (Zq L) }) λL=>⟨L,rfl,rfl⟩) λr I d=>?_
 cases r with
 |error e=>exact d|ok fl=>
  cases fl with
  |ret u=>
   obtain⟨L,rfl,rfl⟩:=d;have T:Shared.TypeIs { s with heap:=s.heap.push (Zq L) } (.ref s.heap.objs.size) "set":=⟨_,aC _ rfl,rfl⟩
   have q:=F.called_set.init.lookup;have B:=F.called_set.init.bind (.ref s.heap.objs.size)
   repeat (any_goals (first|assumption|wp_step))
   refine codeAny_mono (FH (E:=E) (Q:=λv D=>v=.none/\∃C a,D={ s with heap:=C,toks:=a }/\C.SetOf (intKind prog w) s.heap.objs.size (λk=>(Qt ns oI.length).any (·==k)) (Qt ns oI.length).length/\
    ∀b o,b<s.heap.objs.size->s.heap.get? b=some o->C.get? b=some o) (by simp[l]) J j n λC a S K=>⟨rfl,C,a,rfl,S,K⟩) λi D H=>?_
   cases i with
   |error e=>exact H|ok f=>
    cases f with
    |ret v=>
     obtain⟨rfl,C,a,rfl,S,K⟩:=H
     repeat (any_goals (first|assumption|wp_step))
     exact h _ _ S K
    |_=>exact H.elim
  |_=>exact d.elim
end
def intsAre_of:∀{N:bN}{i:bP},Vals (N.map V.int) i->IntsAre i N:=by
 intro N
 induction N with
 |nil=>intro i h;cases h;exact .nil|cons n N I=>
  intro i h;cases h with|cons r t=>obtain⟨T,rfl⟩:=r;exact .cons n T (I t)
section
variable {m:Ev}
abbrev Lh (n:bN):HO:=.set (λk=>(Qt n n.length).any (·==k)) (Qt n n.length).length
def iq (K:Frag):List V->Hp->VK->Prop:=λx H Q=>∃p n,x=[.ref p]/\qA K H p (n.map V.int)/\n.length<=100/\∀l,H l=none->Q (.ref l) (upd H l (Lh n))
def E9 (d:X.calm=true):j9 X (.type "set") (iq X.K):=by
 intro f s g H x U Q I r h;obtain⟨p,N,rfl,c,z,q⟩:=h;obtain⟨u,rfl,a⟩:=vals1 r;cases a;obtain⟨i,v,P,_⟩:=I.tuple c;have n:i.length=N.length:=by have:=v.length;rw[ag]at this;lia
 refine FL (I.ok.hd d) P (intsAre_of v) (by unfold scanBound;lia) λj t S kp=>?_
 rw[n]at S;exact⟨.ref s.heap.objs.size,_,I.laid (t':=t) (o:=Lh N) (λb o e=>kp b o (aM e) e) (ao _) S,rfl,q _ (I.hok.fresh (ao _))⟩
def D9:j9 X (.builtin "len") (λx H Q=>∃p S n,x=[.ref p]/\H p=some (.set S n)/\n<=100/\Q (.int n) H):=by
 intro P s j H x U Q I r h;obtain⟨p,S,n,rfl,b,z,q⟩:=h;obtain⟨u,rfl,a⟩:=vals1 r;cases a;obtain⟨o,e,E,t,c,i,g,_,_,_,f,d⟩:=(show qX X.prog X.w H s.heap p (.set S n) from I.hok p _ b)
 subst d;exact call_len_set c i g f (by lia) ⟨.int e.size,H,I.tok _,⟨_,rfl⟩,q⟩
def Nn:W->Hx->R W:=λw A=>match w with
 |.tup a=>match intsOf a with|some n=>if n.length<=100 then .ok (.int (Qt n n.length).length) A else .bad|none=>.bad
 |_=>.bad
def ir (m:Ev):Ev:=λa A=>(m a A).bind λw b=>Nn w b
end
def XJ (s:Stmt):Expr:=match s with|.If t _ _ _=>t|_=>ZO
def iu (e:Expr):Expr:=match e with|.UnaryOp _ a _=>a|_=>ZO
section
def iw:=ZE JL λi j=>.int (i * 2 ^ j.toNat)
end
def IX:fillsNumberSlot (.type "tuple") "mul"=pure false:=
 PySem.fillsNumberSlot_seq (id := "tuple.__mul__") (r:=some (.builtin "tuple.__rmul__")) F.slot_tuple_mul.lookup (by decide +kernel) F.slot_tuple_rmul.lookup (by decide +kernel)
def FR:seqRepeat? (.type "tuple")=pure (some (.builtin "tuple.__mul__")):=by
 unfold seqRepeat?;rw[PySem.seqSlot_of (T := "tuple") (name := "__mul__") (id := "tuple.__mul__") F.slot_tuple_mul.lookup (by decide +kernel),PySem.seqSlot_of (T := "tuple") (name := "__rmul__") (id := "tuple.__rmul__") F.slot_tuple_rmul.lookup (by decide +kernel)]
 rfl
def FO (a:Int)(t:Tok)(l:Addr)(o:b8)(i:Array Value)(n:Nat)(S:Array (Option Value)):
  Meets (Builtin.«int.__rmul__» ⟨[.int a t,.ref l],[]⟩) (λ_ R s=>s.heap.get? l=some ⟨.type "tuple",o,.seq i n,S⟩/\R (.ok (.ret Value.notImplemented)) s):=
 .of_wp λp w A R s h=>by
  obtain⟨H,g,d,T,c⟩:=s;obtain⟨b,h⟩:=h
  wp_walk
  exact⟨_,rfl,h⟩
def Dr (k:Int)(t:Tok)(l:Addr)(o:b8)(I:Array Value)(n:Nat)(S:Array (Option Value))(B:2<=k)(f:k<1000)(i:0<I.size)(z:I.size<1000):
  Meets (Builtin.«tuple.__mul__» ⟨[.ref l,.int k t],[]⟩) (λ_ R s=>s.heap.get? l=some ⟨.type "tuple",o,.seq I n,S⟩/\R (.ok (.ret (.ref s.heap.objs.size))) { s with heap:=s.heap.push { cls:=.type "tuple",data:=.seq ((List.replicate k.toNat I).foldl (·++·) #[]) } }):=
 .of_wp λP w A R s h=>by
  obtain⟨p,g,d,T,v⟩:=s;obtain⟨c,h⟩:=h;have r:I.isEmpty=false:=by
   cases he:I.isEmpty with|false=>rfl|true=>rw[Array.isEmpty_iff_size_eq_zero]at he;lia
  have q:(k==1)=false:=by rw[beq_eq_false_iff_ne];lia
  have b:(decide (k < -2 ^ 63) || decide (k ≥ 2 ^ 63))=false:=by rw[Bool.or_eq_false_iff,decide_eq_false_iff_not,decide_eq_false_iff_not];lia
  have j:decide (k<=0)=false:=by rw[decide_eq_false_iff_not];lia
  have y:(I.size:Int) * k<=1000 * 1000:=Int.mul_le_mul (by lia) (by lia) (by lia) (by lia)
  have a:¬(I.size:Int) * k > (2 ^ 63-1)/8:=by lia
  have E:Builtin.Tuple.tupleTooMany ((I.size:Int) * k)=false:=by
   unfold Builtin.Tuple.tupleTooMany
   have:sizeLine=16777216:=sizeLine_eq
   rw[decide_eq_false_iff_not];lia
  wp_walk
  rw[b];rw[aj (by decide)]
  dsimp only
  wp_walk
  rw[aj a,E,aj (by decide)]
  have H:(List.foldl (λX x=>X++x) #[] (List.replicate k.toNat I)).size<=sizeLine:=by
   have u:=foldl_rep I.toList k.toNat [];rw[bK]at u;have e:I.toList.toArray=I:=by simp
   rw[e]at u;rw[u,aD,len_rep]
   have:sizeLine=16777216:=sizeLine_eq
   have:k.toNat * I.toList.length<=1000 * 1000:=mul_le_mul (by lia) (by rw[length_toList];lia)
   lia
  refine cb (m:=Builtin.Tuple.tupleExact _) (wpAny_newObj_type ?_ H);exact cg ⟨_,rfl,h⟩
section
variable {K:Frag}{b:Expr}
def MC (K:Frag):R2:=λx y H Q=>∃l k X,x=.ref l/\y=.int k/\qA K H l X/\2<=k/\k<1000/\0<X.length/\X.length<1000/\
 ∀p,H p=none->Q (.ref p) (upd H p (.tup (List.replicate k.toNat X).flatten))
def iy:qM X (binaryOp .Mult) (MC X.K):=by
 intro P s N H x y v u Q I rx ry h;obtain⟨l,k,j,rfl,rfl,d,L,J,g,f,q⟩:=h;cases rx;obtain⟨t,rfl⟩:=ry;obtain⟨i,r,p,_⟩:=I.tuple d;obtain⟨⟨M,D,data,S⟩,a,c,n,A⟩:=id p;simp only at c A;subst c A;have w:List.foldl (λC B=>C++B) #[] (List.replicate k.toNat i.toArray)=(List.replicate k.toNat i).flatten.toArray:=by
  have:=foldl_rep i k.toNat []
  rw[bK]at this;exact this
 have z:=r.length;refine wpAny_binaryOp_repeat_ref (T := "tuple") (U := "int") (by decide) ⟨_,a,rfl⟩ (λE=>typeIs_int E k t) IX F.fills_int_mul F.slot_int_rmul FR F.slot_int_index.lookup
  (call_meets F.slot_int_rmul (typeIs_int s k t) F.entry_int_rmul (F.args_int_rmul_2 _ _) (FO k t l D i.toArray n S)
   ⟨a,rfl,⟨_,a,rfl⟩,call_meets F.slot_tuple_mul ⟨_,a,rfl⟩ F.entry_tuple_mul (F.args_tuple_mul_2 _ _) (Dr k t l D i.toArray n S L J (by rw[aD];lia) (by rw[aD];lia)) ⟨a,?_⟩⟩)
 rw[w];refine⟨.ref s.heap.objs.size,_,I.laid (t':=s.toks) (o:=.tup (List.replicate k.toNat j).flatten) (λb ob q=>af _ q) (ao _) ?_,rfl,q _ (I.hok.fresh (ao _))⟩;refine⟨?_,_,r.rep k.toNat,QN.new _ _⟩;rw[len_rep];have e:sizeLine=16777216:=sizeLine_eq
 have:k.toNat * j.length<=1000 * 1000:=mul_le_mul (by lia) (by lia)
 lia
def Jw:W->W->Hx->R W:=λx y A=>match x,y with|.tup X,.int k=>if decide (2<=k)&&(decide (k<1000)&&(decide (0<X.length)&&decide (X.length<1000))) then .ok (.tup (List.replicate k.toNat X).flatten) A else .bad|_,_=>.bad
def As:∀x y A,qT (Jw x y A):=λx y A=>by
 unfold Jw
 split
 ·exact ZM jY jc
 ·exact jc
def Bx:yw K (MC K) Jw:=λe A H x y u v Q S b q p=>by
 cases u with
 |tup X=>cases v with
  |int j=>
   obtain⟨d,a,rfl,t,r⟩:=b;obtain rfl:=q;unfold Jw at p;dsimp only at p
   by_cases h:(decide (2<=j)&&(decide (j<1000)&&(decide (0<X.length)&&decide (X.length<1000))))=true
   ·rw[ai h]at p
    simp only[ak,aq]at h;refine⟨d,j,a,rfl,rfl,t,h.1,h.2.1,by rw[<- r.length];exact h.2.2.1,by rw[<- r.length];exact h.2.2.2,λl c=>?_⟩
    obtain⟨c1,c2,C⟩:=Jp S c (r.rep j.toNat);exact p _ _ _ c1 c2 C
   ·rw[aj h]at p;exact p.elim
  |_=>exact p.elim
 |_=>cases v<;>exact p.elim
end
section
open PySem.SeqAt
open PySem.AutoSeq1 (wpAny_loadPart')
open PySem.MeetsSeq PySem.MeetsSeq2 PySem.MeetsSeq3
end
open PySem
open PySem PySem.Spec PyProof.Rows
namespace F
end F
section
theorem PU:∀{N:bN}{i:bP},IntsAre i N->Vals (N.map V.int) i
 |_,_,.nil=>.nil|_,_,.cons n t h=>.cons ⟨t,rfl⟩ (PU h)
end
section
variable {K:Frag}
theorem zE.app:∀{a u:List W}{x y:List V},zE K φ H a x->zE K φ H u y->zE K φ H (a++u) (x++y)
 |[],_,_,_,h,h2=>by cases h;exact h2|w::a,_,_,_,⟨v,r,e,h,t⟩,h2=>by subst e;exact⟨v,_,rfl,h,zE.app t h2⟩
variable {m:Ev}{lo hi:Option Expr}
abbrev Po:=En->Hx->R (Option Int)
noncomputable def WB:Po:=λ_ A=>.ok none A
def Qo (m:Ev):Po:=λa A=>(m a A).bind λw b=>match w with|.int i=>.ok (some i) b|_=>.bad
def Wv (w:List W)(l h:Option Int):List W:=(w.drop (HT.yQ w.length 0 l)).take (HT.yQ w.length w.length h-HT.yQ w.length 0 l)
inductive MP (K:Frag)(xr:XR)(p:Po)(σ:St)(H:Hp)(Q:Option Int->Hp->Prop):Prop
 |mk (φ:bQ) (A:Hx) (ρ:En) (S:zL K φ A H) (re:RE K φ H ρ σ) (h:(p ρ A).post (λo A1=>∀oO H1,Le K φ H oO H1->zL K oO A1 H1->Q o H1) (EB K φ H xr))
def tP (K:Frag)(x:XR)(p:Po):TO:=λa H Q=>MP K x p a H Q
def SP (X:Cx)(x:XR)(e:Option Expr)(p:Po):Prop:=PO X e (tP X.K x p)
def PO.imp {e:Option Expr}{t T:TO}(h:PO X e t)(i:∀σ H Q,T σ H Q->t σ H Q):PO X e T:=λp s σ H Q I w=>h p s σ H Q I (i σ H Q w)
def Ml (b:SE X xr e m):SP X xr (some e) (Qo m):=PO.imp (B8 b) λj H Q ⟨g,A,n,S,r,h⟩=>by
 refine tM.go S r (zS.mp h) λw o a f v d l c q=>?_;cases w with|int i=>obtain rfl:=q;exact⟨i,rfl,d a f l c⟩|_=>exact d.elim
end
def CG (x:Array Value):((List.range x.size).filterMap λ(k:Nat)=>x[(((x.size:Int)-1)+(k:Int) * (-1)).toNat]?).toArray=x.toList.reverse.toArray:=by
 congr 1
 have e:∀k,k<x.size->x[(((x.size:Int)-1)+(k:Int) * (-1)).toNat]? =some (x.toList.reverse.getD k .none):=λk h=>by
  have b:(((x.size:Int)-1)+(k:Int) * (-1)).toNat=x.size-1-k:=by lia
  rw[b,aa,List.getElem?_reverse (by simpa using h),Array.getElem?_toList,length_toList,Array.getElem?_eq_getElem (by lia)]
  rfl
 have E:((List.range x.size).filterMap λ(k:Nat)=>x[(((x.size:Int)-1)+(k:Int) * (-1)).toNat]?)=(List.range x.size).map λk=>x.toList.reverse.getD k .none:=by
  have a:∀l:bS,(∀k∈l,k<x.size)->(l.filterMap λ(k:Nat)=>x[(((x.size:Int)-1)+(k:Int) * (-1)).toNat]?)=l.map λk=>x.toList.reverse.getD k .none:=by
   intro l
   induction l with
   |nil=>intro _;rfl|cons k l I=>
    intro h;rw[bb,e k (h k (aF ..)),aQ,I λj H=>h j (aA _ H)]
  exact a _ λk h=>cf.mp h
 rw[E]
 apply a9
 ·simp
 ·intro i b c
  rw[getElem_map,getElem_range,aa,ae c]
  rfl
section
variable {K:Frag}
def Fv (h:Vals xs us):Vals xs.reverse us.reverse:=by
 induction h with|nil=>exact .nil|cons r t i=>rw[bI,bI];exact i.append (.cons r .nil)
theorem zE.rev:∀{a:List W}{b:List V},zE K φ H a b->zE K φ H a.reverse b.reverse
 |[],_,h=>by cases h;rfl|w::a,_,⟨v,r,e,h,t⟩=>by subst e;rw[bI,bI];exact zE.app (zE.rev t) ⟨v,[],rfl,h,rfl⟩
end
noncomputable def XA (_ j:Int):Bool:=decide (0<j)&&decide (j<1152921504606846976)
def Lb (i j:Int):Prop:=0<j/\j<1152921504606846976
def BV (i j:Int)(h:XA i j=true):Lb i j:=by unfold XA at h;rw[ak]at h;exact⟨of_decide_eq_true h.1,of_decide_eq_true h.2⟩
def CT:qM X (binaryOp .FloorDiv) (rI Lb λi j=>.int (i/j)):=YZ λi j _ _ _ _ _ h q=>by
 have b:(0:Int)<j:=h.1;have a:j<1152921504606846976:=h.2;refine floordiv_int (by lia) (by rw[Int.fdiv_eq_ediv_of_nonneg i (by lia)];exact q) (.inl (PyProof.noPylong_of_log2 ?_))
 have H:j.natAbs≠0:=by lia
 have:j.natAbs.log2<60:=(Nat.log2_lt H).mpr (by lia)
 lia
def Wg:=ZE XA λi j=>.int (i/j)
def X4 (e:Expr):Expr:=match e with|.Compare l _ _ _=>l|_=>ZO
open Classical in
def iz (K:Frag)(n:Nat)(t:Qw):TG:=λv b H Q=>∃a x,v=.ref a/\qS K H a x/\x.length=n/\t x b H Q
section
variable {m:Ev}
def iA {k:Nat}{t:Qw}(f:X.calm=true)(h:WL X es t)
  (B:(assignEach es X.env).length=n:=by rfl)(c:(assignEach es X.env).findIdx? (·.1)=none:=by rfl):PG X (.Tuple es k o7) (iz X.K n t):=by
 intro P s y H v u Q I r w;obtain⟨a,A,E,q,l,w⟩:=w;subst E;cases r;obtain⟨i,d,p,j⟩:=I.list q;rw[assign_Tuple];refine cb (wpAny_standAt ?_);unfold unpack;have z:(assignEach es X.env).length=i.toArray.size:=by simp[B,<- l,d.length]
 rw[z,c];refine cb (wpAny_holding (PySem.W.kun_itemsOf (I.ok.hd f) p.isList λC x=>?_));have g:Inv X P y H { s with heap:=C }:=I.kept (t':=s.toks) λb o e=>x b o (aO (aM e)) e
 exact h P _ y H A _ Q g (by simpa using d) w
def Wi (i j k:Nat)(m:Ev):Ex:=λa A=>(m a A).bind λw b=>match w with
 |.ref n=>match b[n]? with|some (.lst [x,y,z])=>.ok (.nx (((a.set i (some x)).set j (some y)).set k (some z))) b|_=>.bad
 |_=>.bad
def iB {j k:Nat}{x y z:W}(h:m ρ A=.ok (.ref n) A1)(H:A1[n]? =some (.lst [x,y,z])):Wi i j k m ρ A=.ok (.nx (((ρ.set i (some x)).set j (some y)).set k (some z))) A1:=by unfold Wi;rw[h,zI];dsimp only;rw[H]
end
end Mi
namespace PySem.SeqAt
open PySem
end PySem.SeqAt
namespace Mi
open PySem PySem.Spec PyProof.Rows L2
section
variable {m:Ev}
def Yz (m:Ev)(p P:Po):Ev:=λb A=>(m b A).bind λw d=>(p b d).bind λl c=>(P b c).bind λu a=>match w with
 |.ref n=>match a[n]? with|some (.lst ws)=>.ok (.ref a.length) (a++[.lst (Wv ws l u)])|_=>.bad
 |_=>.bad
end
open PySem.W (KasT kas_rev kas_asc kas_desc kas_tail3 kas_descPart kas_count kas_place kas_bin kas_sort)
def TW (n:Nat)(c:Nat->Nat->Bool):KasT α->(α->Prop)->Prop
 |.ret a,Q=>Q a|.ask i j k,Q=>i<n/\j<n/\TW n c (k (c i j)) Q
theorem TW.bind {b:Type}{f:α->KasT b}{Q:b->Prop}:∀(t:KasT α),TW n c t (λa=>TW n c (f a) Q)->TW n c (t.bind f) Q
 |.ret _,h=>h|.ask i j k,h=>⟨h.1,h.2.1,TW.bind (k (c i j)) h.2.2⟩
theorem TW.wp {cmp:Nat->Nat->(Bool->Shared->Prop)->Shared->Prop}{G:α->Shared->Prop}{s:Shared}(H:∀i j C,i<n->j<n->C (c i j) s->cmp i j C s):
  ∀(t:KasT α),TW n c t (λa=>G a s)->t.kasWp cmp G s
 |.ret _,h=>h|.ask i j k,h=>H i j _ h.1 h.2.1 (TW.wp H (k (c i j)) h.2.2)
open PySem.W (KasT kas_sort kas_ask kat_run kat_snds kat_kind kat_lt kat_cons kat_nil kat_yes kat_no kat_one KatLex KatGo KatTups)
noncomputable def JE  [DecidableEq α] (lt:α->α->Bool):List α->List α->Bool
 |[],[]=>false|[],_::_=>true|_::_,[]=>false|a::x,b::y=>if a=b then JE lt x y else lt a b
section
variable (O:KeyOrd)[DecidableEq O.α]
theorem OM:∀x:List O.α,JE O.blt x x=false
 |[]=>rfl|a::x=>by unfold JE;rw[ai rfl];exact OM x
end
noncomputable abbrev IO:KeyOrd:=⟨Int,λa b=>decide (a<b),λa=>by simp,λa b c d H=>by simp only[aq]at*;lia,λa b c h=>by simp only[aq]at*;lia,λa b d H=>by simp only[decide_eq_false_iff_not]at*;lia⟩
abbrev yj:List Int->List Int->Bool:=JE IO.blt
def C9 (x:bN):yj x x=false:=OM IO x
def iC {d:α}(l:List α):((List.range l.length).map λi=>l.getD i d)=l:=by
 refine a9 (by simp) λi a b=>?_
 simp at a;simp[a]
def iD (v:bP):(v.toArray.zip v.toArray).map (·.2)=v.toArray:=by
 apply Array.toList_inj.mp
 rw[Array.toList_map];simp only[Array.toList_zip,List.toList_toArray];exact List.map_snd_zip (ao _)
section
variable {prog:Program}{A:Around}{s:Shared}
def iE {b:Bool}{x y:Int}{t u:Tok}{Q:Bool->Shared->Prop}(h:Q (decide (x<y)) s):wpAny (model prog w) A (oneLt' b (.int x t) (.int y u)) Q E s:=by
 cases b with|true=>exact oneLt_int h|false=>exact kat_one _ _ (wpAny_lt_int h)
theorem N7 {Q:Bool->Shared->Prop}{b:Bool}:∀{x y:bP}{f bs:bN}{i:Nat},IntsAre x f->IntsAre y bs->Q (yj f bs) s->KatLex prog w A b (decide (x.length<y.length)) Q (x.zip y) i s
 |_,_,_,_,_,.nil,.nil,h=>h|_,_,_,_,_,.nil,.cons _ _ _,h=>by refine kat_nil (s:=s) ?_;simpa[JE] using h
 |_,_,_,_,_,.cons _ _ _,.nil,h=>by refine kat_nil (s:=s) ?_;simpa[JE] using h
 |_,_,_,_,i,.cons (vs:=x) a t d,.cons (vs:=y) c u r,h=>by
  refine kat_cons (wpAny_eqBool_int ?_);unfold yj JE at h
  by_cases e:a=c
  ·subst e
   rw[ai rfl]at h;rw[bA];refine kat_yes ?_;show KatLex prog w A b (decide (x.length+1<y.length+1)) Q (x.zip y) (i+1) s;rw[show decide (x.length+1<y.length+1)=decide (x.length<y.length) by simp]
   exact N7 d r h
  ·rw[aj e]at h
   rw[show(a==c)=false by simp[e]]
   exact kat_no (iE h)
def JD (h:Heap)(v:Value)(k:bN):Prop:=∃(a:Addr) (o:Obj) (oI:bP) (n:Nat),v=.ref a/\h.get? a=some o/\o.cls=.type "tuple" /\ o.data=.seq oI.toArray n/\IntsAre oI k
def JD.keep {v:Value}{k:bN}(t:JD h v k)(kp:∀b o,h.get? b=some o->h'.get? b=some o):JD h' v k:=by obtain⟨a,o,i,n,e,f,d,c,H⟩:=t;exact⟨a,o,i,n,e,kp _ _ f,d,c,H⟩
def iF {x y:Value}{k l:bN}{b:Bool}{Q:Bool->Shared->Prop}(f:JD s.heap x k)(e:JD s.heap y l)(h:Q (yj k l) s):wpAny (model prog w) A (keyLt' (tuples' b) x y) Q E s:=by
 obtain⟨a,o,I,n,rfl,r,_,j,g⟩:=f;obtain⟨p,t,q,N,rfl,d,_,c,H⟩:=e;refine kat_lt r j d c ?_
 have:=N7 (prog:=prog) (w:=w) (A:=A) (b:=b) (i:=0) g H h
 simpa using this
inductive wU (h:Heap):List Value->List (bN)->Prop
 |nil:wU h [] []
 |cons {v:Value} {k:bN} {vs:bP} {ks:bM} (t:JD h v k) (ne:k≠[]) (r:wU h vs ks):wU h (v::vs) (k::ks)
theorem wU.length:∀{v:bP}{K:bM},wU h v K->v.length=K.length
 |_,_,.nil=>rfl|_,_,.cons _ _ r=>by simp[r.length]
theorem wU.keep (kp:∀b o,h.get? b=some o->h'.get? b=some o):∀{v:bP}{K:bM},wU h v K->wU h' v K
 |_,_,.nil=>.nil|_,_,.cons t ne r=>.cons (t.keep kp) ne (r.keep kp)
theorem wU.at:∀{v:bP}{K:bM}(i:Nat),wU h v K->i<K.length->JD h (v.getD i Value.none) (K.getD i [])
 |_,_,_,.nil,H=>by simp at H|_,_,0,.cons t _ _,_=>t|_,_,i+1,.cons _ _ r,H=>r.at i (by simpa using H)
theorem wU.firsts:∀{d:bP}{K:bM},wU h d K->∃fs:bP,KatTups h d fs/\fs.length=d.length/\∀v∈fs,∃i t,v=Value.int i t
 |_,_,.nil=>⟨[],trivial,rfl,λv H=>by cases H⟩|_,_,.cons (k:=k) ⟨a,o,oI,n,e,h1,h2,c,b⟩ ne r=>by
  obtain⟨fs,t,l,f⟩:=r.firsts;cases b with
  |nil=>exact absurd rfl ne|cons i T q=>
   refine⟨Value.int i T::fs,⟨⟨a,o,_,n,e,h1,h2,c,rfl⟩,t⟩,by simp[l],λv H=>?_⟩
   rcases cm.mp H with rfl|H
   ·exact⟨i,T,rfl⟩
   ·exact f v H
end
noncomputable def Rq (k:bN):W:=.tup (k.map W.int)
def Qi:List W->Option (bM)
 |[]=>some []|.tup x::ws=>match intsOf x with|some k=>if k=[] then none else(Qi ws).map (k::·)|none=>none
 |_::_=>none
theorem Oh:∀{b:List W}{K:bM},Qi b=some K->b=K.map Rq/\∀k∈K,k≠[]
 |[],_,h=>by cases h;exact⟨rfl,λk a=>by cases a⟩|w::b,K,h=>by
  cases w with
  |tup X=>
   unfold Qi at h;cases E:intsOf X with
   |none=>rw[E]at h;cases h|some k=>
    rw[E]at h;dsimp only at h
    by_cases c:k=[]
    ·rw[ai c]at h;cases h
    ·rw[aj c]at h
     cases e:Qi b with
     |none=>rw[e]at h;cases h|some l=>
      rw[e]at h;cases h;obtain⟨A,a2⟩:=Oh e;refine⟨by rw[aQ,<- A,Gx E];rfl,λx H=>?_⟩
      rcases cm.mp H with rfl|H
      ·exact c
      ·exact a2 x H
  |_=>cases h
section
theorem Nb {l:List (Option V)}{s:Shared}(I:Inv X o6 l H s):∀{j:bM}{y:List V}{i:bP},zE X.K φ H (j.map Rq) y->(∀k∈j,k≠[])->Vals y i->wU s.heap i j
 |[],_,_,e,_,b=>by have E:_=([]:List V):=e;subst E;rw[Vals.zero b];exact .nil
 |k::j,_,_,⟨v,r,e,h,t⟩,ne,b=>by
  subst e;cases b with
  |cons c b=>
   obtain⟨a,x,e,hT,d⟩:=h;subst e;have w:=zE.ints.mp d;subst w;obtain⟨i,g,⟨o,u,q,n,p⟩,_⟩:=I.tuple hT;cases c;exact .cons ⟨a,o,i,n,rfl,u,q,p,intsAre_of g⟩ (ne k (aF ..)) (Nb I t (λk f=>ne k (aA _ f)) b)
variable {K:Frag}{a:Expr}
def Ah (K:Frag):V->List V->Hp->VK->Prop:=λx v H Q=>∃a X y,x=.ref a/\v=[y]/\qS K H a X/\we y=true/\X.all we=true/\Q (.int (X.countP λz=>gI z y)) H
def DE:YW X "list.count" (Ah X.K):=by
 intro p s w H x B v U Q I rx b h;obtain⟨a,A,y,rfl,rfl,t,j,f,q⟩:=h;cases rx;obtain⟨u,rfl,d⟩:=b.one;obtain⟨i,r,⟨⟨C,D,data,S⟩,n,o,c,g,l⟩,_⟩:=I.list t;simp only at c l;subst c l;refine call_meets F.slot_list_count ⟨_,o,rfl⟩ F.entry_list_count (F.args_list_count_2 _ _) (SeqAt.list_countAt a i.toArray n D S u (Zc y)) ⟨o,λz e=>Ko d j r f z (by simpa using e),?_⟩
 refine⟨.int _,H,I.tok _,⟨_,rfl⟩,?_⟩;rw[<- Uc r f]at q;simpa using q
def Yp:W->W->Hx->R W:=λx y A=>match x with
 |.ref n=>match A[n]? with|some (.lst ws)=>if yu y&&ws.all yu then .ok (.int (QZ y ws 0)) A else .bad|_=>.bad
 |_=>.bad
def Di:∀x y A,qT (Yp x y A):=λx y A=>by
 unfold Yp
 split
 ·split
  ·exact ZM jY jc
  ·exact jc
 ·exact jc
end
open PySem.W (kas_kind)
section
open PySem.SeqAt
open PySem.AutoSeq1 (wpAny_loadPart')
open PySem.MeetsSeq PySem.MeetsSeq2 PySem.MeetsSeq3
end
open AutoSeq1 (wpAny_loadPart')
section
variable {m:Ev}
def iG:=Ze λi j=>.int (Builtin.bitAnd i j)
def iH:=ZE (λ_ j=>decide (0<=j)) λi j=>.int (i/2 ^ j.toNat)
def iI (m:Ev):Ev:=λa A=>(m a A).bind λw b=>match w with|.int i=>.ok (.bl (i != 0)) b|_=>.bad
end
def Qg (X:Cx):Prop:=∀p a H s,Inv X p a H s->∀(x:Str)(c:Addr),X.env.cells.lookup x=some c->c∉qE X.stack
def KU (h:∀x,X.fn x=true):Qg X:=λp a H s I x c e=>h9 I h e
def Dz {H:Hp}{d:Shared}(S:gw X sc)(C:Qg X)(I:Inv X o6 σ H d):Qg (jz X N sc d H fp j5):=λp a b g i x c e f=>by
 rcases Yj I S (PySem.mem_of_lookup e) with ⟨_,z,_⟩|⟨_,z,_⟩
 ·exact C o6 σ H d I x c z f
 ·rcases cm.mp (I.stkSub c f) with q|q
  ·exact absurd (I.lt) (Nat.not_lt.mpr (by rw[<- q];exact bJ z))
  ·obtain⟨_,o,h,_⟩:=I.ok.funs.mem q
   exact absurd (aM h) (Nat.not_lt.mpr (a4 I.sz (bJ z)))
def wg (n:Nat)(q:Str)(P:Addr)(i:bS)(g:Fn):Ev:=λa A=>match A[n]? with
 |some (.tab Q P')=>if Q=q/\P'=P then(match gF i a with|some w=>g w A|none=>.bad) else .bad
 |_=>.bad
def Lz (e:Expr):Expr:=match e with|.ListComp b _ _ _=>b|_=>ZO
section
variable {K:Frag}{st:Stmt}{c:Addr}{ps:bU}{k:Nat}{m:Ex}
def Lr (F:kL K x x st f fd)(n:nsIn K mainGlobals x=some (some (.ref f)))(t:tabIn K x=some (c,Pt))(S:kO N ps (qf st))
  (h:∀(A:Around)(o:bY)(s:Shared)(H:Hp)(E:XK),jd k (A.deeper (envOfC x (qf st) s.heap.objs.size f (.ref c)))->JO (yO kq P w K mg base N x (qf st) f (.ref c) A o s H E).nox jO (jV st) m):
  yh P w K mg base kq (k+1) f fd ps (g9 K ps.length (qm N.length m)):=
 (ia (q := "") (ls:=[]) (m:=λ_=>m) F n t S h).imp λv H Q E ⟨l,a,A,b,S,r,q⟩=>⟨l,a,A,b,S,r,λ_=>q⟩
end
def DK {K:Frag}{mb:bX}{k:Nat}{fa p:Addr}{sp:Sp}{S:Shared}{vs:bP}
  (KX:K.In S.heap)(A:S.heap.Ns mainGlobals mg)(c:S.heap.Ns builtinsNs mb)(hbb:∀x:Str,x ≠ "__name__" -> mb x=bootBuiltins x)(C:S.heap.NoLimit)(hg:S.gens=#[])
  (l:S.heap.get? a=some { cls:=.type "list",data:=.seq vs.toArray })(hi:IntsAre vs ns)(hl:ns.length<=sizeLine)(hr:jd k callerA)
  (t:S.heap.get? Pt=some (tabObj #[]))(hKP:K.lookup Pt=none)(hct:isCodeTable S.heap Pt)(i:S.heap.get? p=some (tabObj #[]))(hKU:K.lookup p=none)(Y:isCodeTable S.heap p)(hbm:BMain mg S.heap)
  (F:∀base:Heap,K.In base->base.Ns mainGlobals mg->BMain mg base->yh P w K mg base kq k fa fd [x] sp)(y:∀(s:Shared)(u:Value),BindsTo s fd ⟨[u],[]⟩ [(x,u)])
  (T:∀H:Hp,H Pt=some (.tbl #[])->H p=some (.tbl #[])->YV K H a (ns.map V.int)->sp [.ref a] H (λv _=>v=.bl true) λ_ _ _=>False):
  codeAny (model P w) callerA (.call (.ref fa) ⟨[.ref a],[]⟩) (λr s'=>r=.ok (.ret (.bool true))/\OldK S.heap s'.heap/\s'.os=S.os/\AllBare s'.gens) S:=by
 have rv:=PU hi;have L:=hi.length;have Q:a≠Pt:=λz=>by rw[z,t]at l;cases l
 have U:a≠p:=λz=>by rw[z,i]at l;cases l
 have core:∀H:Hp,H Pt=some (.tbl #[])->H p=some (.tbl #[])->YV K H a (ns.map V.int)->jf P w H S.heap->(∀b,H b≠none->b=a∨b=Pt∨b=p)->(∀u,H a=some u->K.lookup a=none/\∃o xs,u=.frz o (.lst xs))->
   codeAny (model P w) callerA (.call (.ref fa) ⟨[.ref a],[]⟩) (λr s'=>r=.ok (.ret (.bool true))/\OldK S.heap s'.heap/\s'.os=S.os/\AllBare s'.gens) S:=by
  intro H hO hU hS hok I hK;have base_of:∀{b:Addr}{o:Obj},S.heap.get? b=some o->H b=none->(ZR S.heap H).get? b=some o:=λe n=>Br e n;have M:∀{b:Addr}{o:Obj}{es:Array DictEntry}{E:Nat},S.heap.get? b=some o->o.data=.dict es E->H b=none:=λ {b o es E} e d=>by
   cases q:H b with
   |none=>rfl|some u=>
    rcases I b (by rw[q];simp) with z|z|z
    ·subst z
     rw[l]at e;cases e;have d':Data.seq vs.toArray _=Data.dict es E:=d;cases d'
    ·subst z
     rw[t]at e;cases e;cases d
    ·subst z
     rw[i]at e;cases e;cases d
  have N:∀{b:Addr}{m:bX},S.heap.Ns b m->(ZR S.heap H).Ns b m:=λ {b m} ⟨o,es,E,e,d,r⟩=>⟨o,es,E,base_of e (M e d),d,r⟩;have D:K.In (ZR S.heap H):=λb o e=>base_of (KX b o e) (by
   cases q:H b with
   |none=>rfl|some u=>
    rcases I b (by rw[q];simp) with z|z|z
    ·subst z
     rw[(hK u q).1]at e;cases e
    ·subst z
     rw[hKP]at e;cases e
    ·subst z
     rw[hKU]at e;cases e)
  have hBb:BMain mg (ZR S.heap H):=by
   obtain⟨bm,o,b1,b2,b3,B,J,b6,b7⟩:=hbm;refine⟨bm,o,b1,b2,b3,base_of B ?_,J,b6,b7⟩;cases q:H bm with
   |none=>rfl|some u=>
    rcases I bm (by rw[q];simp) with z|z|z
    ·subst z
     rw[l]at B;cases B;exact absurd J (by intro q;injection q with q;exact absurd q (by decide))
    ·subst z
     rw[t]at B;cases B;cases J
    ·subst z
     rw[i]at B;cases B;cases J
  have hM:Mod K mg (ZR S.heap H):=⟨D,N A,⟨mb,N c,hbb⟩,let ⟨mc,h1,h2⟩:=C;⟨mc,N h1,h2⟩⟩
  have e0:JC P w K mg (ZR S.heap H) callerA [] S H:=⟨rfl,hM,λb o e=>Ao e,Nat.le_of_eq (Ds _ _),trivial,λb c=>absurd (show b∈([]:bQ) from c) (by simp),hok,.of_eq hg⟩
  refine codeAny_mono ((F _ D (N A) hBb).run callerA [] S H ⟨[.ref a],[]⟩ [.ref a] [.ref a] _ _ hr e0 (y S (.ref a)) (.cons rfl .nil) (T H hO hU hS)) λr s' h=>?_;cases r with
  |error e=>exact False.elim h|ok fl=>
   cases fl with
   |next=>exact False.elim h|brk=>exact False.elim h|cont=>exact False.elim h|ret u=>
    obtain⟨v,H',os,bare,un,g,r',q⟩:=h;have q':v=.bl true:=q;subst q';obtain rfl:u=Value.bool true:=r';refine⟨rfl,⟨λb o e=>?_,λb o e=>un.there b o e (by simp)⟩,os,bare⟩
    cases q:H b with
    |none=>exact .inl (un.keep b o e q (by intro z;exact absurd (show b∈([]:bQ) from z) (by simp)) (by simp))|some u=>
     rcases I b (by rw[q];simp) with z|z|z
     ·subst z
      obtain⟨ob,xs,rfl⟩:=(hK u q).2;have j:=un.frzs _ ob _ q;obtain⟨e1,_⟩:=hok _ _ q;obtain⟨e2,_⟩:=g _ _ j;rw[e]at e1;cases e1;exact .inl e2
     ·subst z
      rw[t]at e;cases e;obtain⟨more,j⟩:=un.tbls _ _ hO;exact .inr (.inl ⟨hct,rfl,#[],more,rfl,g _ _ j⟩)
     ·subst z
      rw[i]at e;cases e;obtain⟨more,j⟩:=un.tbls _ _ hU;exact .inr (.inl ⟨Y,rfl,#[],more,rfl,g _ _ j⟩)
 have two:∀b,(b=Pt∨b=p)->S.heap.get? b=some (tabObj #[]):=λb h=>by
  rcases h with h|h<;>rw[h]
  ·exact t
  ·exact i
 have na:¬(a=Pt∨a=p):=λh=>h.elim Q U;cases X:K.lookup a with
 |some o=>
  have e:=KX a o X;rw[l]at e;cases e;refine core (λb=>if b=Pt∨b=p then some (.tbl #[]) else none) (ai (.inl rfl)) (ai (.inr rfl)) (.inr ⟨_,vs.toArray,_,X,rfl,rfl,rfl,by rw[aD,L];exact hl,by simpa using rv⟩) (λb u z=>?_) (λb z=>?_) λu z=>?_
  ·by_cases c:b=Pt∨b=p
   ·have Z:=(ai c).symm.trans z
    cases Z;exact two b c
   ·have Z:=(aj c).symm.trans z
    cases Z
  ·by_cases c:b=Pt∨b=p
   ·exact .inr c
   ·exact absurd (aj c) z
  ·have Z:=(aj na).symm.trans z
   cases Z
 |none=>
  refine core (λb=>if b=Pt∨b=p then some (.tbl #[]) else if b=a then some (.frz { cls:=.type "list",data:=.seq vs.toArray } (.lst (ns.map V.int))) else none) (ai (.inl rfl)) (ai (.inr rfl))
   (.inl ⟨{ cls:=.type "list",data:=.seq vs.toArray },(aj na).trans (ai rfl)⟩) (λb u z=>?_) (λb z=>?_) λu z=>?_
  ·by_cases c:b=Pt∨b=p
   ·have Z:=(ai c).symm.trans z
    cases Z;exact two b c
   ·have Z:=(aj c).symm.trans z
    by_cases f:b=a
    ·have j:=(ai f).symm.trans Z
     cases j;subst f;exact⟨l,by rw[ag];exact hl,vs,_,rv,l⟩
    ·have j:=(aj f).symm.trans Z
     cases j
  ·by_cases c:b=Pt∨b=p
   ·exact .inr c
   ·by_cases f:b=a
    ·exact .inl f
    ·exact absurd ((aj c).trans (aj f)) z
  ·have Z:=((aj na).trans (ai rfl)).symm.trans z
   cases Z;exact⟨X,_,_,rfl⟩
def Mp (q r:Str)(fs:Addr->Addr->Fn):Prop:=∀n:bN,n.length<=63->∀p P,∃A,fs p P [.ref 0] [.ro (n.map W.int),.tab q p,.tab r P]=.ok (.bl true) A
def E1 {K:Frag}{P:Addr}{q r:Str}(N:Pt≠P)(f:H Pt=some (.tbl #[]))(U:H P=some (.tbl #[]))(S:YV K H a (ns.map V.int)):zL K [a,Pt,P] [.ro (ns.map W.int),.tab q Pt,.tab r P] H:=by
 refine⟨rfl,λi j b o u l g d c t M=>?_,λn o h=>?_⟩
 ·match i,j,l,g,d,c with|0,_,_,_,d,_=>simp at d;subst d;cases t|_,0,_,_,_,c=>simp at c;subst c;cases M|1,1,_,_,_,_=>rfl|2,2,_,_,_,_=>rfl|1,2,l,g,_,_=>simp at l g;exact absurd (l.trans g.symm) N|2,1,l,g,_,_=>simp at l g;exact absurd (g.trans l.symm) N|i+3,_,_,_,d,_=>simp at d|_,j+3,_,_,_,c=>simp at c
 ·match n,h with
  |0,h=>simp at h;subst h;exact⟨a,rfl,ns.map V.int,S,zE.ints.mpr rfl⟩|1,h=>simp at h;subst h;exact⟨Pt,rfl,rfl,#[],f,trivial,λp C e=>nomatch e⟩
  |2,h=>simp at h;subst h;exact⟨P,rfl,rfl,#[],U,trivial,λp C e=>nomatch e⟩
  |n+3,h=>simp at h
def zdI {y:Str}{l:PySem.W.OpenLaw}{k:Nat}{q:Program}{loose:bU}{M:World->Heap->Prop}{d:DefRec}{Kp:Params->Frag}{X Q:Str}{fs:Addr->Addr->Fn}{P:Addr}(ok:Mp X Q fs)
  (hn:l.most=some 63)(B:d.params.defaults=[])(hr:jd k callerA)(ne:Pt≠P)(hY:∀(w:World)(h:Heap),M w h->(Kp w.params).In h)(hT:∀(w:World)(h:Heap),M w h->h.get? Pt=some (tabObj #[])/\h.get? P=some (tabObj #[]))
  (ht:∀p,Xi (Kp p) d.name Pt=true)(I:∀p,(Kp p).lookup Pt=none)(Z:∀p,Xi (Kp p) y P=true)(U:∀p,(Kp p).lookup P=none)
  (F:∀(w:World)(mg:bX)(fa:Addr)(h:Heap),(Kp w.params).In h->h.Ns mainGlobals mg->mg d.name=some (.ref fa)->(∃c,tabIn (Kp w.params) d.name=some (c,Pt)/\codeHdIn (Kp w.params) c Pt=true)->(∃c,tabIn (Kp w.params) y=some (c,P)/\codeHdIn (Kp w.params) c P=true)->
   ∃fd:FuncData,(∀(s:Shared)(u:Value),BindsTo s fd ⟨[u],[]⟩ [(x,u)])/\∀base:Heap,(Kp w.params).In base->base.Ns mainGlobals mg->BMain mg base->yh l.prog w (Kp w.params) mg base kq k fa fd [x] (g9 (Kp w.params) 1 (fs Pt P))):
  PySem.W.WalkO q loose XP M l.row.toRowW d [] (λf vs=>PySem.call f vs):=by
 refine Att.Eo (n:=63) hn B λw N S mg mb fa o pm cd doc a vs ns G Y ho hd hcd' t j hints hlen hg=>?_;have K:=hY w _ Y;obtain⟨fd,hb,hF⟩:=F w mg fa _ K G.T.g t (Gw (ht w.params)) (Gw (Z w.params));obtain⟨c,_,C⟩:=Gw (ht w.params);obtain⟨c2,_,i⟩:=Gw (Z w.params);obtain⟨hP,hU⟩:=hT w _ Y;have hc:isCodeTable S.heap Pt:=((codeHd_of_K K C).tab hP).isCodeTable;have D:isCodeTable S.heap P:=((codeHd_of_K K i).tab hU).isCodeTable;have E:BMain mg S.heap:=by obtain⟨bm,ob,b1,b2,L,b4,b5,J⟩:=G.T.bmain;refine⟨bm,ob,b1,b2,λz=>?_,L,b4,b5,J⟩;obtain⟨o,es,ep,e,hd,_⟩:=G.T.g;rw[z,e]at L;cases L;rw[hd]at J;cases J
 refine DK K G.T.g G.T.b G.T.builtins G.T.nolimit hg j hints (a4 hlen (by decide)) hr hP (I w.params) hc hU (U w.params) D E hF hb λH h1 h2 h3=>?_
 refine⟨rfl,[a,Pt,P],[.ro (ns.map W.int),.tab X Pt,.tab Q P],[.ref 0],E1 ne h1 h2 h3,.one ⟨a,rfl,rfl⟩,?_⟩;obtain⟨A,e⟩:=ok ns hlen Pt P;rw[e];exactλoJ H' v _ _ r=>r
def C5 (x:Array Value):slicePick x none none (some (-1))=x.toList.reverse.toArray:=by
 unfold slicePick;have E:sliceBounds none none (some (-1)) x.size=((x.size:Int)-1,-1,-1):=rfl;rw[E];have e:sliceRange ((x.size:Int)-1) (-1) (-1)=(List.range x.size).map λ(k:Nat)=>(((x.size:Int)-1)+(k:Int) * (-1)).toNat:=by
  unfold sliceRange;dsimp only;rw[aj (by decide)]
  by_cases h:x.size=0
  ·rw[h,aj (by decide)];rfl
  ·rw[ai (by lia)]
   have:(((x.size:Int)-1 - -1 - -1-1)/(- -1)).toNat=x.size:=by rw[Int.neg_neg,Int.ediv_one];lia
   rw[this];refine bo λk _=>?_;rw[Int.mul_comm]
 rw[e,List.filterMap_map];exact CG x
section
variable {st:Expr}{m ms:Ev}{te:TE}{ts:TO}{p2:Pos}{K:Frag}
def iJ (K:Frag):V->Hp->VK->Prop:=λx H Q=>∃a X,x=.ref a/\qS K H a X/\∀p,H p=none->Q (.ref p) (upd H p (.lst X.reverse))
def iK (T:PE X e te)(n:PO X (some st) ts):PE X (.Subscript e (.Slice none none (some st) p2) o7) (λσ H Q=>te σ H λx D=>ts σ D λo C=>o=some (-1)/\iJ X.K x C Q):=by
 intro P s σ H Q I h;refine Subscript_ (zQ (T P s σ H _ I h) λv M ⟨x,D,y,f,j⟩=>?_);refine wpAny_Slice ?_;rw[evalPart_none];refine cg (cg ?_);refine zQ (n P M σ D _ y j) λU S ⟨o,B,u,N,g⟩=>?_;obtain⟨rfl,a,L,rfl,l,q⟩:=g;cases f;cases N with
 |int i t=>
  have d:Inv X P σ B { S with heap:=S.heap.push { cls:=.type "slice",data:=.fields #[.none,.none,.int (-1) t] } }:=u.kept (t':=S.toks) λb ob q=>af _ q
  obtain⟨c,r,E,z⟩:=d.list l;have J:=r.length;have p:wpAny (model X.prog X.w) X.A (getItem (.ref a) (.ref S.heap.objs.size)) (EP X P σ Q) X.xe { S with heap:=S.heap.push { cls:=.type "slice",data:=.fields #[.none,.none,.int (-1) t] } }:=by
   refine wpAny_getItem_list_slice E.isList (Heap.IsSliceOf.new ..) .none .none (.int (-1) t) (by simp) ?_ (by rw[aD]<;>lia)
   rw[C5];refine⟨.ref _,_,d.laid (t':=S.toks) (o:=.lst L.reverse) (λb ob q=>af _ q) (ao _) ?_,rfl,q _ (d.hok.fresh (ao _))⟩;exact⟨by rw[length_reverse];exact z,c.reverse,0,Fv r,aC _ rfl⟩
  show wpAny (model X.prog X.w) X.A (subscriptTail e (.Slice none none (some st) p2) (.ref a) (.ref S.heap.objs.size)) (EP X P σ Q) X.xe _;exact tail_any (ops:=[.ref a,.ref S.heap.objs.size]) E.isList.typeIs slot_list_getitem.lookup p (by with_unfolding_all rfl)
def T8 (m M:Ev):Ev:=λb A=>(m b A).bind λw c=>(Qo M b c).bind λo a=>match w with
 |.ref n=>match a[n]? with|some (.lst ws)=>if o=some (-1) then .ok (.ref a.length) (a++[.lst ws.reverse]) else .bad|_=>.bad
 |_=>.bad
end
open PySem.W (KasT kas_asc kas_sort kat_run kat_snds kat_kind)
theorem Md {p:Array Nat}(H:∀i,i<n->p.getD i 0=i)(b:∀a,1<=a->a<n->c a (a-1)=false):∀(f a:Nat){Q:Nat->Prop},1<=a->a+f=n->Q n->TW n c (kas_asc p f a) Q
 |0,a,Q,_,e,h=>by obtain rfl:a=n:=e;exact h
 |f+1,a,Q,h1,e,h=>by
  have d:=H a (by lia)
  have E:=H (a-1) (by lia)
  refine⟨by lia,by lia,?_⟩
  rw[d,E,b a h1 (by lia)]
  exact Md H b f (a+1) (by lia) (by lia) h
def AI {Q:Array Nat->Prop}(d:2<=n)(b:∀a,1<=a->a<n->c a (a-1)=false)(h:Q (List.range n).toArray):TW n c (kas_sort n) Q:=by
 refine TW.bind _ (TW.bind _ (Md (p:=(List.range n).toArray) (λi H=>by simp[Array.getD,H]) b _ _ (ao _) (by lia) ?_))
 rw[ai (by simp)]
 show TW n c (if n<n then _ else _) Q;rw[aj (aS n)];exact h
section
variable {prog:Program}{A:Around}{s:Shared}
structure Sf (prog:Program)(w:World)(A:Around)(κ:SortKind)(vs:bP)(c:Nat->Nat->Bool)(s:Shared):Prop where
 kind:2<=vs.length->∀{Q:SortKind->Shared->Prop}{E:bV},Q κ s->wpAny (model prog w) A (keyKind' vs.toArray) Q E s
 lt:∀i j,i<vs.length->j<vs.length->∀{Q:Bool->Shared->Prop}{E:bV},Q (c i j) s->wpAny (model prog w) A (keyLt' κ (vs.getD i Value.none) (vs.getD j Value.none)) Q E s
def E2 {κ:SortKind}{K:bP}{P:PySem.Fin->Shared->Prop}(g:s.heap.get? a=some (seqObj "list" K.toArray n))(v:∀h':Heap,(∀b o,b≠a->s.heap.get? b=some o->h'.get? b=some o)->Sf prog w A κ K c { s with heap:=h' })(q:K.length<64)
  (B:∀a,1<=a->a<K.length->c a (a-1)=false)(h:P (.done (.ret .none)) { s with heap:=sortedHeap s.heap a K K.toArray }):
  wpAny (model prog w) A (Builtin.«list.sort» ⟨[.ref a],[]⟩) P E s:=by
 have J:a<s.heap.objs.size:=aM g;obtain⟨t,f⟩:∃t,(s.heap.update a (Obj.mapSeq λ_=>(#[]:Array Value))).get? a=some (seqObj "list" #[] t):=⟨_,get?_update_seq g λ_=>#[]⟩;have kp:∀b o,b≠a->s.heap.get? b=some o->(((s.heap.update a (Obj.mapSeq λ_=>(#[]:Array Value))).push (seqObj "tuple" K.toArray 0)).push (seqObj "list" #[] 0)).get? b=some o:=λb o N e=>
  af _ (af _ ((br _ _ (Ne.symm N)).trans e))
 have T:=v _ kp;have H:=af (seqObj "list" #[] 0) (af (seqObj "tuple" K.toArray 0) f);have d:K.toArray.size=K.length:=by simp
 rw[list_sort_plain];refine cb (listItems_at g rfl ?_);refine cb (listUpdate_at g rfl ?_ (by rw[d,sizeLine_eq];lia) (zero_le _))
 refine cb (seqEpoch_at f rfl ?_);refine cb (wpAny_newTuple ?_ (by show K.length<=_;rw[sizeLine_eq];lia))
 refine cb (wpAny_newList ?_ (zero_le _));refine wpAny_holding ?_;show wpAny (model prog w) A _ P E { s with heap:=((s.heap.update a (Obj.mapSeq λ_=>(#[]:Array Value))).push (seqObj "tuple" K.toArray 0)).push (seqObj "list" #[] 0) }
 dsimp only
 by_cases z:K.toArray.size<2
 ·rw[ai z,ai z]
  refine cb (cg ?_);rw[StateT.run_pure];refine cb (cg ?_);dsimp only;refine cb (seqEpoch_at H rfl ?_);show wpAny _ _ (Builtin.List.listUpdate (.ref a) (λ_=>(K.toArray.zip K.toArray).map (·.2)) >>= _) _ _ _;rw[iD K];refine cb (listUpdate_at H rfl ?_ (zero_le _) (by rw[d,sizeLine_eq];lia))
  simp only[bne_self_eq_false,false_eq_true,if_false];exact cg h
 ·rw[aj z,aj z]
  have M:2<=K.length:=by lia
  refine cb (T.kind M ?_);refine cb (wpAny_mono (kat_run (ks:=K) (G:=λp L=>L={ s with heap:=((s.heap.update a (Obj.mapSeq λ_=>(#[]:Array Value))).push (seqObj "tuple" K.toArray 0)).push (seqObj "list" #[] 0) }/\p=(List.range K.length).toArray)
   (Q:=λS L=>arrOf S=(List.range K.length).toArray.map (PySem.W.kas_item (K.toArray.zip K.toArray))/\failedOf S=none/\L={ s with heap:=((s.heap.update a (Obj.mapSeq λ_=>(#[]:Array Value))).push (seqObj "tuple" K.toArray 0)).push (seqObj "list" #[] 0) })
   rfl M q (λp S L U a2 I u=>⟨by rw[<- u.2];exact a2,I,u.1⟩) ?_) ?_ λ_ _ e=>e)
  ·exact TW.wp (n:=K.length) (c:=c) (λi j C y x D=>T.lt i j y x D) _ (AI M B ⟨rfl,rfl⟩)
  ·rintro⟨⟨⟩,S⟩ L ⟨r,l,rfl⟩
   dsimp only;rw[kat_snds rfl r,List.toList_toArray,iC];refine cb (seqEpoch_at H rfl ?_);refine cb (listUpdate_at H rfl ?_ (zero_le _) (by rw[d,sizeLine_eq];lia))
   rw[l];simp only[bne_self_eq_false,false_eq_true,if_false];exact cg h
def Ct {u:SortKind}{l:Addr}{v:bP}(i:s.heap.IsList l v.toArray)(T:∀(x:Around)(r:Heap)(t:Nat),x.units<=A.units+8->(∀b o,s.heap.get? b=some o->r.get? b=some o)->Sf prog w x u v c { s with heap:=r,toks:=t })(g:v.length<64)
  (j:∀a,1<=a->a<v.length->c a (a-1)=false)
  (h:∀(r:Heap)(a:Addr)(k:Nat),s.heap.objs.size<=a->r.get? a=some { cls:=.type "list",data:=.seq v.toArray k }->(∀b o,s.heap.get? b=some o->r.get? b=some o)->Q (.ref a) { s with heap:=r }):
  wpAny (model prog w) A (call (.builtin "sorted") [.ref l]) Q E s:=by
 refine Calls.call_function_entry kind_sorted plain_sorted entry_sorted (args_sorted1 _) ?_;unfold Builtin.«sorted»;refine cb (m:=checkCount "sorted" 1 1 _) (cg ?_);refine cb (collect_list i ?_ (by rw[sizeLine_eq];lia))
 refine cb (wpAny_newList ?_ (by rw[sizeLine_eq];lia))
 have f:((s.heap.push (seqObj "list" #[] 0)).update s.heap.objs.size (Obj.mapSeq (·++v.toArray))).objs.size=s.heap.objs.size+1:=by rw[Heap.size_update,size_push']
 show wpAny _ _ _ _ _ { s with heap:=((s.heap.push (seqObj "list" #[] 0)).update s.heap.objs.size (Obj.mapSeq (·++v.toArray))).push (seqObj "list" v.toArray 0) }
 have d:∀b o,s.heap.get? b=some o->((s.heap.push (seqObj "list" #[] 0)).update s.heap.objs.size (Obj.mapSeq (·++v.toArray))).get? b=some o:=λb o e=>
  (br _ _ (ne_of_gt (aM e))).trans (af _ e)
 generalize (s.heap.push (seqObj "list" #[] 0)).update s.heap.objs.size (Obj.mapSeq (·++v.toArray))=h1 at f d;have H:(h1.push (seqObj "list" v.toArray 0)).get? h1.objs.size=some (seqObj "list" v.toArray 0):=aC _ rfl;have K:∀b o,s.heap.get? b=some o->(h1.push (seqObj "list" v.toArray 0)).get? b=some o:=λb o e=>af _ (d b o e);have nb:∀b o,s.heap.get? b=some o->b≠h1.objs.size:=λb o e z=>by
  subst z
  have:h1.objs.size<s.heap.objs.size:=aM e
  lia
 refine cb (wpAny_holding (wpAny_call_entry slot_list_sort ⟨_,H,rfl⟩ entry_list_sort (E2 (κ:=u) (c:=c) H (λr kp=>T _ r _ (by first|(show A.units+1<=A.units+8;lia)|(show A.units+1+1<=A.units+8;lia)) λb o e=>kp b o (nb b o e) (K b o e)) g j ⟨_,rfl,?_⟩) (args_list_sort _)))
 refine cg ⟨_,rfl,?_⟩;have q:=get?_update_seq H (λ_=>(#[]:Array Value));have p:=af (seqObj "list" #[] 0) (af (seqObj "tuple" v.toArray 0) q);obtain⟨k,n⟩:∃k,(sortedHeap (h1.push (seqObj "list" v.toArray 0)) h1.objs.size v v.toArray).get? h1.objs.size=some (seqObj "list" v.toArray k):=⟨_,get?_update_seq p (λ_=>v.toArray)⟩;refine h _ h1.objs.size k (by lia) n λb o e=>?_
 unfold sortedHeap;exact(br _ _ (Ne.symm (nb b o e))).trans (af _ (af _ ((br _ _ (Ne.symm (nb b o e))).trans (K b o e))))
def EI {d:bP}{K:bM}{A:Around}(T:wU s.heap d K):Sf prog w A (tuples' (Value.type "int" != Value.type "tuple")) d (λi j=>yj (K.getD i []) (K.getD j [])) s where
 kind:=λe Q E h=>by obtain⟨fs,t,fl,f⟩:=T.firsts;exact kat_kind (T:=.type "int") t (by lia) (λv H=>by obtain⟨i,c,rfl⟩:=f v H;exact PySem.W.Looks.of_pure rfl) rfl h
 lt:=λi j b a Q E h=>iF (T.at i (by rw[<- T.length];exact b)) (T.at j (by rw[<- T.length];exact a)) h
end
section
variable {m:Ev}
def Ww (K:bM):Bool:=(List.range K.length).all λa=>a==0 || !yj (K.getD a []) (K.getD (a-1) [])
def Fo:j9 X (.builtin "sorted") (λP H Q=>∃(p:Addr) (y:List V) (M:bM) (N:bQ),P=[.ref p]/\qS X.K H p y/\zE X.K N H (M.map Rq) y/\(∀k∈M,k≠[])/\(M.length<64/\Ww M=true)/\
  ∀l,H l=none->Q (.ref l) (upd H l (.lst y))):=by
 intro S s Z H P us Q I r h;obtain⟨p,y,M,N,rfl,g,d,Y,⟨x,w⟩,q⟩:=h;obtain⟨u,rfl,e⟩:=vals1 r;cases e;obtain⟨f,v,⟨o,k,B,z,L,E⟩,C⟩:=I.list g;have T:=Nb I d Y v;have J:=T.length;have D:=v.length;refine Ct (c:=λi j=>yj (M.getD i []) (M.getD j [])) ⟨o,B,z,k,E⟩ (λA U t _ kp=>EI (s:={ s with heap:=U,toks:=t }) (T.keep kp)) (by lia) (λa h1 b=>?_) λU a c b n kp=>?_
 ·have:=cu.mp w a (cf.mpr (by lia))
  rw[a3,aK,not_eq_true']at this;exact this.resolve_left (by lia)
 ·refine⟨.ref a,_,I.laid (t':=s.toks) (o:=.lst y) kp b ⟨?_,_,c,v,n⟩,rfl,q _ (I.hok.fresh b)⟩
  rw[sizeLine_eq];lia
def Xq:W->Hx->R W:=λw A=>match w with
 |.ref n=>match A[n]? with
  |some (.lst ws)=>match Qi ws with|some K=>if K.length<64/\Ww K=true then .ok (.ref A.length) (A++[.lst ws]) else .bad|none=>.bad
  |_=>.bad
 |_=>.bad
def Tf (m:Ev):Ev:=λa A=>(m a A).bind λw b=>Xq w b
end
structure Gs (x:Str)(sc:Scope):Prop where
 kind:sc.kind=.function
 co:sc.isCoroutine=false
 gen:sc.isGenerator=false
 nocell:∀y∈sc.names,y.2≠.cell
 loc:sc.names.lookup x=some .local
noncomputable def M5 (x:Str)(S:Scope):Bool:=S.kind==.function&&!S.isCoroutine&&!S.isGenerator&&S.names.all (λy=>!(y.2==.cell))&&S.names.lookup x==some .local
def Bm (h:M5 x sc=true):Gs x sc:=by
 unfold M5 at h;simp only[ak,aK,not_eq_true']at h;obtain⟨⟨⟨⟨e,d⟩,c⟩,b⟩,a⟩:=h;refine⟨e,d,c,λy H=>?_,a⟩
 have:=cu.mp b y H
 simpa using this
section
variable {K:Frag}{cd:Value}{cl:bZ}{A:Around}{outer:bY}{s:Shared}{E:XK}
def Cf {X:Heap}{T:Tok}(S:Gs x scope)(Y:A.handled=none)(d:JC P w K mg base A outer s H)(C:ZJ base N scope cl vs)(r:RelV v u)(q:X.Ns s.heap.objs.size λy=>[(x,u)].reverse.lookup y)(t:∀b o,s.heap.get? b=some o->X.get? b=some o):
  Inv (kx P w K mg base (x::N) qual scope f cd cl A outer s H E) [] (L2.start (x::N) (v::vs)) H { s with heap:=X,toks:=T }:=by
 have n:∀b:Addr,b∉(kx P w K mg base (x::N) qual scope f cd cl A outer s H E).ex:=λb z=>absurd (show b∈([]:bQ) from z) (by simp)
 have bk:∀c v,base.IsCell c v->X.IsCell c v/\H c=none:=λc v ⟨o,B,Y⟩=>⟨⟨o,t _ _ (d.bs _ _ B).1,Y⟩,(d.bs _ _ B).2⟩;refine⟨⟨d.mod,S.kind,rfl,rfl,ao _,C.inj,λy g=>?_,λy c z _=>(nomatch z),λ_=>Y,Around.frames_deeper d.frames,.inr ⟨rfl,rfl⟩,λb z=>absurd z (n b),d.bs,d.bsz,λb _ _=>n b,λb z=>absurd z (n b),d.funs,d.frf⟩,
  rfl,d.bare,Un.kept t,⟨_,q,λi y j X U Q=>?_⟩,λy c h=>?_,d.hok.fresh (ao _),λy c h=>?_,λp I=>absurd (show p∈([]:bR) from I) (by simp),d.hok.kept t,?_⟩
 ·have g:scope.names.lookup y=some .cell∨scope.names.lookup y=some .free:=g
  rcases g with g|g
  ·exact absurd rfl (S.nocell _ (PySem.mem_of_lookup g))
  ·exact C.has y g
 ·have D:L2.start (x::N) (v::vs)=some v::L2.start N vs:=by unfold L2.start;simp only[aQ,bc,Nat.add_sub_add_right,List.cons_append]
  rw[D]at U;cases i with
  |zero=>
   have M:some x=some y:=X;cases M;have L:some (some v)=some (some j):=U;cases L;exact⟨u,r,.inl ⟨S.loc,by show [(x,u)].lookup x=some u;simp⟩⟩
  |succ i=>
   have X:N[i]? =some y:=X;have U:(L2.start N vs)[i]? =some (some j):=U;have l:i<vs.length:=by
    unfold L2.start at U
    by_cases l:i<vs.length
    ·exact l
    ·rw[ar (by simpa using l)]at U
     rw[bf]at U
     split at U<;>cases U
   have J:vs[i]? =some j:=by
    unfold L2.start at U;rw[ah (by simpa using l),av]at U
    cases e:vs[i]? with|none=>rw[e]at U;cases U|some a=>rw[e]at U;cases U;rfl
   obtain⟨c,u,k,e,z,r⟩:=C.val i y j X J;exact⟨u,r,.inr ⟨.inr k,c,e,(bk _ _ z).1⟩⟩
 ·obtain⟨v,z⟩:=C.cell y c h
  exact⟨v,(bk _ _ z).1⟩
 ·obtain⟨v,z⟩:=C.cell y c h
  exact(bk _ _ z).2
 ·unfold L2.start
  show _=(x::N).length;rw[ay,ag,bq,bc,bc,C.len];lia
inductive Sd (K:Frag)(a:Addr)(ob:Obj)(u:HO)(c:Addr)(oc:Obj)(uc:HO)(vs:List V)(g:Fn)(us:List V)(H:Hp)(Q:VK)(E:XK):Prop
 |mk (e:us.length=1) (h1:H a=some (.frz ob u)) (h2:H c=some (.frz oc uc)) (φ:bQ) (A:Hx) (ws:List W) (S:zL K φ A H) (r:zE K φ H ws (us++vs)) (q:(g ws A).post (PB K φ H Q) (EB K φ H (yT K E)))
def CP {k:Nat}{name:Str}{params:Arguments}{body:Expr}{pm ctv:Value}{c:Addr}{j:Obj}{u uc:HO}{m:Ev}(S:Gs x scope)(C:ZJ base N scope cl vs)(z:Ta j qual)
  (g:∀(A:Around)(outer:bY)(s:Shared)(H:Hp)(E:XK),jd k (A.deeper (envX qual scope s.heap.objs.size a (.ref c) cl))->wm (kx P w K mg base (x::N) qual scope a (.ref c) cl A outer s H E) s.heap (yT K E)->
   SE (kx P w K mg base (x::N) qual scope a (.ref c) cl A outer s H E) (yT K E) body m):
  yh P w K mg base (wu P w) (k+1) a (kla_fn name qual params body scope cl pm (.ref c) ctv) [x] (Sd K a (kla_obj name qual params body scope cl pm c ctv) u c j uc vs λws A=>m (ws.map some) A):=by
 refine⟨λus H Q E h=>by cases h with|mk e=>rw[e];rfl,λA outer s H args us i Q E q n hb r h=>?_⟩
 obtain⟨he,h1,h2,φ,A1,ws,Sm,L,hp⟩:=h;obtain⟨v,rfl⟩:∃v,i=[v]:=by
  cases i with
  |nil=>cases he|cons v t=>cases t with|nil=>exact⟨v,rfl⟩|cons _ _=>cases he
 obtain⟨U,rfl,Y⟩:=r.one;have ho:s.heap.get? a=some (kla_obj name qual params body scope cl pm c ctv):=(show qX P w H s.heap a (.frz _ u) from n.hok a _ h1).1
 have hc:s.heap.get? c=some j:=(show qX P w H s.heap c (.frz j uc) from n.hok c _ h2).1
 have lim:s.heap.NoLimit:=n.mod.nolimit.keeps λb o e=>(n.bs b o e).1;obtain⟨M,X,D,hd2⟩:=z;refine kla_callFunE q.depth ho rfl S.co S.gen rfl ⟨c,j,M,X,rfl,hc,D,hd2⟩ (hb _ _ _ _ ?_);refine wpAny_newFunctionEnv (λy p=>S.nocell y p) (λy p=>?_) (λd B l=>⟨lim.fresh _ l,?_⟩) S.kind
 ·have:y=(x,U):=by simpa using p
  rw[this];exact S.loc
 show codeAny _ _ (.expr body (envX qual scope s.heap.objs.size a (.ref c) cl)) _ _;have f:∀b o,s.heap.get? b=some o->d.get? b=some o:=λb o e=>l.extBut b o (aO (aM e)) (af _ e);have I:∀T,Inv (kx P w K mg base (x::N) qual scope a (.ref c) cl A outer s H E) [] (L2.start (x::N) (v::vs)) H { s with heap:=d,toks:=T }:=λT=>Cf S q.hd n C Y B f
 refine kla_codeExpr (wpAny_mono (g A outer s H E (q.deeper _) MN [] _ (L2.start (x::N) (v::vs)) H Q (I _) ⟨φ,A1,_,Sm,RE.start (N:=x::N) L,?_⟩) (λv s' hv=>?_) λ_ _ y=>y)
 ·have:(x::N).length-ws.length=0:=by rw[L.length];simp[C.len]
  rw[this,List.replicate_zero,aX];exact hp
 ·obtain⟨y,H',J,rx,Z⟩:=hv
  exact⟨y,H',J.os,J.bare,J.base,J.hok,rx,Z⟩
end
def wZ (D B:Heap):Prop:=∀b o,D.get? b=some o->B.get? b=some o
def Qb (P:Program)(w:World)(K:Frag)(M:bX)(b:Heap)(j:Nat)(p:Obj->Addr->Obj->List V->Prop)(g:Fn):Prop:=
 ∀a ob u c o U v,p ob c o v->(∃f,ob.data=.func f)/\∃(f:FuncData) (ps:bU),yh P w K M b (wu P w) j a f ps (Sd K a ob u c o U v g)/\∀(s:Shared)(us:bP),us.length=1->BindsTo s f ⟨us,[]⟩ (ps.zip us)
structure Sb (P:Program)(w:World)(K:Frag)(mg:bX)(j:Nat)(q x:Str)(t:Lm):Prop where
 sc:Gs x t.scope
 bind:∀(cl:bZ)(pm cdv ctv v:Value),bindArgs (kla_fn "<lambda>" q t.params t.body t.scope cl pm cdv ctv) ⟨[v],[]⟩=pure [(x,v)]
 body:∀(base:Heap)(cl:bZ)(a c:Addr)(A:Around)(outer:bY)(s:Shared)(H:Hp)(E:XK),jd j (A.deeper (envX q t.scope s.heap.objs.size a (.ref c) cl))->wm (kx P w K mg base (x::t.N) q t.scope a (.ref c) cl A outer s H E) s.heap (yT K E)->
  SE (kx P w K mg base (x::t.N) q t.scope a (.ref c) cl A outer s H E) (yT K E) t.body t.m
structure YE (D:Heap)(P:Program)(w:World)(K:Frag)(mg:bX)(j:Nat)(q:Str)(t:Lm):Prop where
 sc:GK t.N t.scope
 bind:∀(cl:bZ)(pm cdv ctv:Value),bindArgs (kla_fn "<lambda>" q t.params t.body t.scope cl pm cdv ctv) ⟨[],[]⟩=pure []
 body:∀(base:Heap)(cl:bZ)(a c:Addr)(A:Around)(outer:bY)(s:Shared)(H:Hp)(E:XK),wZ D base->jd j (A.deeper (envX q t.scope s.heap.objs.size a (.ref c) cl))->wm (kx P w K mg base t.N q t.scope a (.ref c) cl A outer s H E) s.heap (yT K E)->
  SE (kx P w K mg base t.N q t.scope a (.ref c) cl A outer s H E) (yT K E) t.body t.m
def ZJ.sub {B:Heap}{cl:bZ}(h:ZJ base N sc cl vs)(k:wZ base B):ZJ B N sc cl vs:=
 have K:∀{c v},base.IsCell c v->B.IsCell c v:=λ⟨o,H,f⟩=>⟨o,k _ _ H,f⟩
 ⟨h.len,h.inj,h.has,λx c e=>let ⟨v,z⟩:=h.cell x c e;⟨v,K z⟩,λi x v d E=>let ⟨c,u,a,b,z,r⟩:=h.val i x v d E;⟨c,u,a,b,K z,r⟩⟩
section
variable {K:Frag}{D:Heap}{j:Nat}{q:Str}{t:Lm}
def iM (l:Sb P w K mg j q x t)(e:∀vs,ZU t.idx σ=some vs->ZJ base t.N t.scope (kC env t.scope.names []) vs):Qb P w K mg base (j+1) (gf env q [t] σ 0) λws A=>t.m (ws.map some) A:=by
 rintro a ob u c o g vs ⟨T,i,⟨⟨p,C,rfl⟩,h⟩,d⟩
 cases i;refine⟨⟨_,rfl⟩,_,[x],CP (name := "<lambda>") (params:=t.params) (body:=t.body) (pm:=p) (ctv:=C) (a:=a) (c:=c) (u:=u) (uc:=g) (m:=t.m) l.sc (e vs d) h λA f s H E r X=>l.body base _ a c A f s H E r X,λs U b=>?_⟩;obtain⟨v,rfl⟩:∃v,U=[v]:=by
  cases U with
  |nil=>cases b|cons v t=>cases t with|nil=>exact⟨v,rfl⟩|cons _ _=>cases b
 exact .of_eq (l.bind _ _ _ _ v)
def iN (l:YE D P w K mg j q t)(g:wZ D base)(f:∀vs,ZU t.idx σ=some vs->ZJ base t.N t.scope (kC env t.scope.names []) vs)(k:Nat):QU P w K mg base (j+1) (gf env q [t] σ k) (w6 [t] k):=by
 rintro a ob u c o U vs ⟨T,p,⟨⟨B,C,rfl⟩,b⟩,v⟩
 have e:T=t:=cw.mp (aV p);subst e;refine⟨⟨_,rfl⟩,_,((h7 (name := "<lambda>") (params:=T.params) (body:=T.body) (pm:=B) (ctv:=C) (a:=a) (c:=c) (u:=u) (uc:=U) (m:=T.m) l.sc (f vs v) b λA n s H E d x=>l.body base _ a c A n s H E g d x)).imp λL H Q E h=>?_,λs=>.of_eq (l.bind _ _ _ _)⟩;obtain⟨J,I,i,y,A,z,S,r,h⟩:=h;refine⟨J,I,i,y,A,z,S,r,?_⟩;unfold w6 at h;rw[p]at h;exact h
end
section
variable {s:Shared}{t:Lm}{j:Nat}{q:Str}
def Ks (I:Inv X o6 σ H s)(C:Qg X):JC X.prog X.w X.K X.mg (gA X.base s.heap X.env.cells) X.A X.stack s H/\wZ X.base (gA X.base s.heap X.env.cells):=by
 have kb:wZ X.base (gA X.base s.heap X.env.cells):=λb o e=>EH I.bk e;have M:Mod X.K X.mg (gA X.base s.heap X.env.cells):=by obtain⟨f,c,B⟩:=I.mod.blt;exact⟨I.mod.kin.keeps kb,I.mod.glob.keeps kb,⟨f,c.keeps kb,B⟩,I.mod.nolimit.keeps kb⟩
 have bs:∀b o,(gA X.base s.heap X.env.cells).get? b=some o->s.heap.get? b=some o/\H b=none:=λb o e=>by
  obtain⟨a,E⟩:=OX e;refine⟨a,?_⟩;rcases E with ⟨d,E⟩|⟨y,E⟩
  ·exact(I.bs b d E).2
  ·exact I.freeC y b E
 refine⟨⟨I.ok.frames,M,bs,Nat.le_of_eq (hideAll_size _ _),frames_at I.stack λb h=>?_,I.stkFree,I.hok,I.bare⟩,kb⟩;cases e:(gA X.base s.heap X.env.cells).get? b with
 |none=>rfl|some o=>
  exfalso;rcases(OX e).2 with ⟨d,E⟩|⟨y,E⟩
  ·have:=(I.stack.mem h).1
   rw[E]at this;cases this
  ·exact C o6 σ H s I y b E h
def PR (I:Inv X o6 σ H s)(C:Qg X)(l:YE X.base X.prog X.w X.K X.mg j q t)(x:XQ X t):∀k,QU X.prog X.w X.K X.mg (gA X.base s.heap X.env.cells) (j+1) (gf X.env q [t] σ k) (w6 [t] k):=
 λk=>iN l (Ks I C).2 (λb h=>OP I (λy c v e ⟨o,a,d⟩=>⟨o,Pm e a,d⟩) x h) k
end
open Classical in
def QO (i:Nat)(p:Obj->Addr->Obj->List V->Prop)(g:Fn)(M:Ea):Ev:=λa A=>match a[i]? with|some (some (.clo _ ws P))=>if P=p then zU (λu=>g (u++ws)) M a A else .bad|_=>.bad
section
variable {K:Frag}{oJ:bQ}{H':Hp}
mutual
theorem RV.nar (E:∀(n:Nat)(a:Addr),φ[n]? =some a->oJ[n]? =some a):∀{w:W}{v l:V},RV K φ H w l->RV K oJ H' w v->RV K φ H' w v
 |.non,_,_,_,h=>h|.bl _,_,_,_,h=>h|.int _,_,_,_,h=>h|.str _,_,_,_,h=>h|.tup j,_,_,⟨_,_,_,_,b⟩,⟨a,g,e,t,r⟩=>⟨a,g,e,t,zE.nar E b r⟩|.ref n,_,_,⟨A,_,i⟩,⟨a,e,f⟩=>⟨a,e,by rw[<- aE ((E _ _ i).symm.trans f)];exact i⟩|.clo _ j P,_,_,⟨_,_,_,_,_,_,_,_,_,_,_,b⟩,⟨a,ob,u,c,o,uc,g,e,h1,h2,d,r⟩=>⟨a,ob,u,c,o,uc,g,e,h1,h2,d,zE.nar E b r⟩|.xc x,_,_,_,h=>h|.fn _,_,_,_,h=>h
theorem zE.nar (E:∀(n:Nat)(a:Addr),φ[n]? =some a->oJ[n]? =some a):∀{c:List W}{d b:List V},zE K φ H c b->zE K oJ H' c d->zE K φ H' c d
 |[],_,_,_,h=>h|w::c,_,_,⟨_,_,_,h0,t0⟩,⟨v,r,e,h,t⟩=>⟨v,r,e,RV.nar E h0 h,zE.nar E t0 t⟩
end
theorem OR.nar (x:∀(n:Nat)(a:Addr),φ[n]? =some a->oJ[n]? =some a){o:O}(i:OR K φ H b o)(h:OR K oJ H' a o):OR K φ H' a o:=by
 cases o with|lst w=>obtain⟨_,_,c⟩:=i;obtain⟨v,e,r⟩:=h;exact⟨v,e,zE.nar x c r⟩|ro w=>obtain⟨_,_,c⟩:=i;obtain⟨v,e,r⟩:=h;exact⟨v,e,zE.nar x c r⟩|dct g=>obtain⟨_,_,_,c⟩:=i;obtain⟨v,e,E,r⟩:=h;exact⟨v,e,E,zE.nar x c r⟩|td g=>obtain⟨_,_,_,_,c⟩:=i;obtain⟨X,e,E,d,r⟩:=h;exact⟨X,e,E,d,zE.nar x c r⟩|tr g=>obtain⟨_,_,_,_,_,_,_,c⟩:=i;obtain⟨ob,u,X,e,E,d,f,r⟩:=h;exact⟨ob,u,X,e,E,d,f,zE.nar x c r⟩|tab q P=>exact h
def zL.forget {b:bQ}{d:Hp}{us ws2:List W}(S:zL K φ A H)(p:zL K b B d)(l:Le K φ H b d)(z:A[n]? =some (.lst us))(v:∀i,i<A.length->i≠n->B[i]? =A[i]?)(u:B[n]? =some (.lst ws2))(nr:qN ws2=true):
  zL K φ (A.set n (.lst ws2)) d/\Le K φ H φ d:=by
 have g:n<A.length:=(cj.mp z).1;have at_:∀i o,(A.set n (.lst ws2))[i]? =some o->B[i]? =some o:=λi o e=>by
  by_cases q:n=i
  ·subst q
   rw[aw g]at e;cases e;exact u
  ·rw[au q]at e
   rw[v i (cj.mp e).1 (Ne.symm q)];exact e
 refine⟨⟨by rw[bD];exact S.len,λi j a o C J I x w D M=>p.inj i j a o C (l.ex _ _ J) (l.ex _ _ I) (at_ _ _ x) (at_ _ _ w) D M,λi o e=>?_⟩,⟨λ_ _ h=>h,l.tp,l.fr,λ_ _ h=>.inl h,l.st,l.fz⟩⟩
 obtain⟨a,f,r⟩:=p.ob i o (at_ i o e)
 by_cases q:n=i
 ·subst q
  rw[aw g]at e;cases e;obtain⟨c,y,_⟩:=S.ob n _ z;have E:c=a:=aE ((l.ex _ _ y).symm.trans f);subst E;exact⟨c,y,r.nrL nr⟩
 ·rw[au q]at e
  obtain⟨c,y,t⟩:=S.ob i o e;have E:c=a:=aE ((l.ex _ _ y).symm.trans f);subst E;exact⟨c,y,t.nar l.ex r⟩
def zL.tell {U:List W}(S:zL K φ A H)(w:A[n]? =some (.lst U))(h:∀vs,zE K φ H U vs->zE K φ H ws vs):zL K φ (A.set n (.lst ws)) H:=by
 have l:n<A.length:=(cj.mp w).1;have at_:∀(i:Nat)(o:O),(A.set n (.lst ws))[i]? =some o->∃v:O,A[i]? =some v/\v.mut=o.mut:=λi o e=>by
  by_cases q:n=i
  ·subst q
   rw[aw l]at e;cases e;exact⟨_,w,rfl⟩
  ·rw[au q]at e
   exact⟨o,e,rfl⟩
 refine⟨by rw[bD];exact S.len,λi j a o v B z u t y M=>?_,λi o e=>?_⟩
 ·obtain⟨p,c,b⟩:=at_ i o u
  obtain⟨d,x,P⟩:=at_ j v t;exact S.inj i j a p d B z c x (b.trans y) (P.trans M)
 ·by_cases q:n=i
  ·subst q
   rw[aw l]at e;cases e;obtain⟨a,f,vs,g,r⟩:=S.ob n _ w;exact⟨a,f,vs,g,h vs r⟩
  ·rw[au q]at e
   exact S.ob i o e
end
def PJ:Obj->Addr->Obj->List V->Prop:=λ_ _ _ _=>True
def Yt (n:Nat)(q:Str)(P:Addr)(i:bS)(M:Ev)(g:W->List W->Hx->R W):Ev:=λa A=>(M a A).bind λw b=>match b[n]? with
 |some (.tab Q P')=>if Q=q/\P'=P then(match gF i a with|some c=>g w c b|none=>.bad) else .bad
 |_=>.bad
section
variable {g:W->List W->Hx->R W}
def Hand (f:(Obj->Addr->Obj->List V->Prop)->Fn)(g:W->List W->Hx->R W)(P:Obj->Addr->Obj->List V->Prop)(w:W)(b:List W)(A:Hx):Prop:=
 g w b A=.bad∨∃v B n u a,f P [w,.ref A.length] (A++[O.lst [.clo 0 b P]])=.ok v B/\v.nr=true/\g w b A=.ok v ((A++[O.lst [.clo 0 [] PJ]]).set n (.lst a))/\A[n]? =some (.lst u)/\qN a=true/\B[n]? =some (.lst a)/\
  ∀i,i<A.length+1->i≠n->B[i]? =(A++[O.lst [.clo 0 b P]])[i]?
end
open PySem PySem.Spec PyProof.Rows L2 Mi
@[irreducible] def Vo (X:Cx)(x:XR)(e:bW)(M:List Ev):Prop:=Mi.SJ X x e M
def Mc:@Vo=@Mi.SJ:=by delta Vo;rfl
section
def Jg {g:Heap}{k:Nat}{f:Fn}(o:wm X g xr)(F:ym X.prog X.w X.K X.mg X.base k x n f)(r:jd k X.A)(B:gj X xr (e::es) mr)(i:Zt mr n:=by repeat' (first|exact zO|refine zw ?_))(t:Gl X x:=by rfl)
  (c:yo x:=by decide)(he:jb e es X:=by rfl)(l:kX o7 es X:=by rfl):
  zx X xr (.Call (.Name x p) (e::es) [] o7) (zU f mr):=by
 simp only[zV,Mc]at*;obtain⟨fa,fd,ps,F,hm,j,u⟩:=F;refine PE.imp (O5 F r t hm j u .nil o.passes B c he l) λσ H Q ⟨Y,A,P,S,re,h⟩=>?_;have N:=zS.mp h;refine⟨Y,A,P,S,re,?_⟩;cases E:mr P A with
 |ok U T=>
  rw[E]at N;intro b H1 Z L I q;have v:Z.length=n:=by rw[<- q.length];exact i P A U T E
  rw[aX];refine⟨v,b,T,U,I,q,qw N (λ_ _ z=>z.mono L) λy A2 z a J d D M C=>?_⟩;exact⟨y,M,rfl,C,z a J (L.trans d) D⟩
 |exc y T=>rw[E]at N;exact N|bad=>rw[E]at N;exact N
def Am {m:Ev}(h:zx X.nox jO e m):zx X xr e λρ A=>(m ρ A).nox:=by
 simp only[zV,Mc]at*;refine PE.imp (PE.nox h) λc H Q ⟨a,A,ρ,S,r,q⟩=>⟨a,A,ρ,S,r,?_⟩;cases E:m ρ A with|ok w b=>(try dsimp only at q);rw[E]at q;exact q|exc y b=>(try dsimp only at q);rw[E]at q;exact q.elim|bad=>(try dsimp only at q);rw[E]at q;exact q.elim
def UK {m:Ev}(h:yz X.nox jO e m):yz X xr e λρ A=>(m ρ A).nox:=by
 simp only[zV,Mc]at*;refine PT.imp (PT.nox h) λc H Q ⟨a,A,ρ,S,r,q⟩=>⟨a,A,ρ,S,r,?_⟩;cases E:m ρ A with|ok w b=>(try dsimp only at q);rw[E]at q;exact q|exc y b=>(try dsimp only at q);rw[E]at q;exact q.elim|bad=>(try dsimp only at q);rw[E]at q;exact q.elim
def Oq {M:Ex}{a:b9}(h:yI X.nox jO a M):yI X xr a λρ A=>(M ρ A).nox:=by
 simp only[zV,Mc]at*;refine yJ.imp (yJ.nox h) λD d H ⟨b,A,ρ,S,r,q⟩=>⟨b,A,ρ,S,r,?_⟩;cases e:M ρ A with|ok w c=>(try dsimp only at q);rw[e]at q;exact q|exc y c=>(try dsimp only at q);rw[e]at q;exact q.elim|bad=>(try dsimp only at q);rw[e]at q;exact q.elim
def Gk {g:Heap}{top:Str}{N:Pos}(o:wm X g xr)(c:Uw X.K top x)(d:gj X xr (e::es) mr)(l:Zt mr n:=by repeat' (first|exact zO|refine zw ?_))(f:n<=sizeLine:=by decide)(a:Gl X x:=by rfl)(h:X.calm=true:=by rfl)
  (b:yo x:=by decide)(i:jb e es X:=by rfl)(H:kX oH es X:=by rfl):
  yC X xr (.Raise (some (.Call (.Name x N) (e::es) [] oH)) none o7) (TR x mr):=by
 simp only[zV,Mc]at*;exact C4 o c.at_ c.exc PySem.F.excBase_ValueError d l f a h b i H
def iP {K:Frag}{B:Stmt}{ps:bU}{k:Nat}{m:Ex}(F:kL K x x B f fd)(hm:mg x=some (.ref f))(S:kO N ps (qf B))
  (j:∀(kV D M:Value)(T:b8)(c ct:Value)(U:bP),U.length=ps.length->bindArgs (fnOf x x (gU B) (jV B) (qf B) .none kV D M T c ct) ⟨U,[]⟩=pure (ps.zip U))
  (a:∀(c:Value)(A:Around)(z:bY)(s:Shared)(H:Hp)(E:XK),jd k (A.deeper (envOfC x (qf B) s.heap.objs.size f c))->
   wm (yO (wu P w) P w K mg base N x (qf B) f c A z s H E) s.heap (yT K E)->yI (yO (wu P w) P w K mg base N x (qf B) f c A z s H E) (yT K E) (jV B) m):
  ym P w K mg base (k+1) x ps.length (w5 N.length m):=by
 simp only[zV,Mc]at*;refine⟨f,fd,ps,?_,hm,F.kp,F.binds j⟩;obtain⟨u,t,kV,D,M,T,c,ct,o,rfl,Z,d⟩:=F.ex;refine Sg Z d S (λY H Q E h=>h.len) λA z s H Y Q E i ⟨v,J,X,I,n,r,h⟩=>⟨_,a c A z s H E i hA,?_⟩;refine⟨J,X,I.map some++List.replicate (N.length-I.length) none,n,RE.start r,?_⟩;have C:=zS.mp h;show R.post _ (FB K J H _) _;cases e:m (I.map some++List.replicate (N.length-I.length) none) X with
 |ok fl A2=>
  rw[e]at C;cases fl with|rt w=>exact C|nx L=>exactλb q g l p _=>C b q .non l p rfl|bk L=>exact C.elim|ct L=>exact C.elim
 |exc y A2=>rw[e]at C;exact C|bad=>rw[e]at C;exact C.elim
def AX {L:Addr}{j:Nat}{l:Nat}{n:Str}{y:Str}{Z:Str}{cs:bU}{PG:Nat->Obj->Addr->Obj->List V->Prop}{lam:Nat->Fn}{U:bP}{oV:String}{np:Pos}{cp:Pos}{ep:Pos}{dp:Pos}{yp:Pos}{J:Pos}{ap:Pos}{hp:Pos}(hL:∀k,QU X.prog X.w X.K X.mg X.base kk (PG k) (lam k))(hr:jd kk X.A)(hst:X.stack=X.env::X.outer)(hFr:X.env.frame=some L)(hD:ki X.K Z (.ref D))(exD:Mi.Zr X.K D U oV=true)(hbD:U.contains (.type "BaseException")=true)
  (hcs:∀c,cs.contains c=true->∀C,ki X.K c (.ref C)->∃B f,Mi.Zr X.K C B f=true/\JI X.K C D=true)
  (hN:X.N.Nodup)(hi:X.N[i]? =some x)(hx:X.env.scope.names.lookup x=some .local)(hl:X.N[l]? =some n)(hn:X.env.scope.names.lookup n=some .local)(hj:X.N[j]? =some y)(hy:X.env.scope.names.lookup y=some .local)
  (hg:Gl X Z)(hs1:swapsWith (.Call (.Name x np) [] [] cp) none ep.line X.env=pure false:=by rfl)(hs2:swapsWith (.Name n J) (some (.Name y yp)) ap.line X.env=pure false:=by rfl)
  (hdx:yo x:=by decide)(hdn:yo n:=by decide)(hdD:yo Z:=by decide):
  yC X xr (.Try [.Expr (.Call (.Name x np) [] [] cp) ep] [.ExceptHandler (some (.Name Z dp)) (some n) [.Assign [.Name y yp] (.Name n J) ap] hp] [] [] o7) (Wo i j l cs PG lam):=by
 simp only[zV,Mc]at*;intro o6 s σ H D0 I ⟨φ,A,ρ,S,re,h⟩;unfold Wo XN at h;cases ei:ρ[i]? with
 |none=>rw[ei]at h;exact h.elim|some ow=>
  cases ow with
  |none=>rw[ei]at h;exact h.elim|some w=>
   rw[ei]at h;cases w with
   |clo k ws P=>
    dsimp only at h
    by_cases hP:P=PG k
    ·rw[ai hP]at h
     subst hP;obtain⟨v,hv,a,ob,u,c,oc,uc,vs,rfl,h1,h2,hp',rvs⟩:=re.get i _ ei;obtain⟨⟨fd0,hfd⟩,fd,F,hb⟩:=hL k a ob u c oc uc vs hp';have ho:s.heap.get? a=some ob:=(show qX X.prog X.w H s.heap a (.frz ob u) from I.hok a _ h1).1
     refine hW (i:=l) (L:=L) (k:=zff X.K φ H ρ j l D0)
      I hst hFr hD exD hbD hN hl (.inl hn) ?body ?t hg hdD (.inr hn)
     case body=>
      refine wpAny_execs_cons (wpAny_Expr_any ?_ I.quiet hs1);obtain⟨m,hns,Q⟩:=I.loc;obtain⟨u',r',lk⟩:=Q i x (.ref a) hi hv (.inl hx);obtain rfl:u'=Value.ref a:=r';have hm:m x=some (.ref a):=by
       rcases lk with ⟨_,e⟩|⟨q|q,_⟩
       ·exact e
       ·rw[show X.env.kindOf x=some .local from hx]at q;cases q
       ·rw[show X.env.kindOf x=some .local from hx]at q;cases q
      refine wpAny_Call_Name_kw (wpAny_Name (wpAny_loadName_local I.ok.kind hx hns hm ?_) hdx);have hK:Frag.In [(a,ob)] s.heap:=λb o e=>by
       rw[bF]at e
       by_cases hb:b=a
       ·subst hb;simp at e;subst e;exact ho
       ·have:(b==a)=false:=by simpa using hb
        rw[this]at e;cases e
      have hkp:keepIn [(a,ob)] (.ref a)=true:=by
       unfold keepIn;obtain⟨o1,o2,o3,o4⟩:=ob;cases (show o3=_ from hfd)
       simp[bF]
      refine PySem.W.callWith_K0 (K:=[(a,ob)]) (first:=[]) hK hkp ?_;refine wpAny_call (codeAny_mono (F.run X.A X.stack s H ⟨[],[]⟩ [] [] (λ_ H1=>D0.nx σ H1)
       (zfL X.K φ H ρ j l D0 cs)
       hr I.env0 (hb s) .nil ⟨rfl,h1,h2,φ,A,ws,S,rvs,?_⟩) λr s' p=>?_)
      ·cases er:lam k ws A with
       |ok w1 A1=>
        rw[er]at h;exactλd H' v' z Y _=>h d H' σ z Y (re.mono z)
       |exc E A1=>
        rw[er]at h;dsimp only at h
        by_cases T:cs.contains E=true
        ·rw[ai T]at h
         exactλd H' z Y Ca g=>⟨E,Ca,rfl,g,T,d,A1,z,Y,h⟩
        ·rw[aj T]at h;exact h.elim
       |bad=>rw[er]at h;exact h.elim
      ·cases r with
       |error e=>
        unfold CR at p;dsimp only at p;have un:∀b o,s.heap.get? b=some o->∃o',s'.heap.get? b=some o':=by obtain⟨_,_,_,_,_,_,un,_⟩:=p;exactλb o e=>un.there b o e (by simp)
        obtain⟨ea,C,H',rfl,I',ly,tr,E,Ca,ec,g,T,oO,A1,l1,S1,hn1⟩:=PZ I p s.heap λb o e=>⟨o,e⟩;cases ec;obtain⟨B,f,exC,up⟩:=hcs E T C g;exact⟨ea,C,H',B,f,rfl,I',ly,tr,un,exC,up,λoe hoe M=>⟨E,oO,A1,l1.trans (Le.new M),S1.lay M,⟨ea,oe,.own 0,C,rfl,jR,hoe,g⟩,hn1⟩⟩
       |ok fl=>
        cases fl with
        |ret u1=>
         obtain⟨v1,H1,I1,_,q1⟩:=I.after p;exact wpAny_execs_nil ⟨rfl,σ,H1,I1,q1⟩
        |next=>exact False.elim p|brk=>exact False.elim p|cont=>exact False.elim p
     case t=>
      rintro ea C H2 s2 I2 ⟨E,d,A',z,Y,rx,hn'⟩ E'
      refine EF (i:=l) (j:=j) I2 hN hl hj hn (.inl hy) (λs' I'=>?_) hs2 (.inr hy) hdn;exact⟨_,H2,I',hn' d H2 _ z Y ((((re.mono z).set rx).set rx).unset)⟩
    ·rw[aj hP]at h;exact h.elim
   |_=>exact h.elim
def kB {m:Ev}{P:Pos}{f:Str->Option Bool}{C:Addr}(b:K7 X.K f (.ref C))(d:ki X.K x (.ref C))(o:X.mg "isinstance"=none)(i:zx X xr e m)(g:Gl X "isinstance":=by rfl)(a:Gl X x:=by rfl)(q:yo x:=by decide)
  (l:starEach [e,.Name x P] X.env=(false,eval e X.env)::starEach [.Name x P] X.env:=by rfl)(t:(backTo o7 (starEach [.Name x P] X.env)).any (·.1)=false:=by rfl):
  zx X xr (.Call (.Name "isinstance" p) [e,.Name x P] [] o7) (yb f m):=by
 simp only[zV,Mc]at*;have c:PE X (.Name x P) (tC (.ref C)):=λj s n H Q I h=>Yo I a (mg_of I.mod.kin I.mod.glob d) ⟨.ref C,H,I,rfl,h⟩ q;exact PE.imp (Z3 (OV (cv:=.ref C) b λu r=>r) g o (by rfl) (jk i (jk c j3) l) (by decide) (by decide) l t) (yb.read λn H Q h=>h)
def CS {m:Ev}{P:Pos}{f:Str->Option Bool}{T:String}(c:K7 X.K f (.type T))(l:X.mg "isinstance"=none)(a:X.mg x=none)(d:bootBuiltins x=some (.type T))(i:zx X xr e m)(g:Gl X "isinstance":=by rfl)(b:Gl X x:=by rfl)(n:x ≠ "__name__":=by decide)(o:yo x:=by decide)
  (j:starEach [e,.Name x P] X.env=(false,eval e X.env)::starEach [.Name x P] X.env:=by rfl)(q:(backTo o7 (starEach [.Name x P] X.env)).any (·.1)=false:=by rfl):
  zx X xr (.Call (.Name "isinstance" p) [e,.Name x P] [] o7) (yb f m):=by
 simp only[zV,Mc]at*;exact PE.imp (Z3 (OV (cv:=.ty T) c λu r=>r) g l (by rfl) (jk i (jk (G6 b a d (v:=.ty T) rfl n o) j3) j) (by decide) (by decide) j q) (yb.read λt H Q h=>h)
def B5 {m:Ev}{a:Pos}{P:Pos}{pt:Pos}{D:Str}{C:Str}{K:Nat}(t T:Ty)(U:X.mg "isinstance"=none)(n:X.mg D=none)(j:X.mg C=none)(f:bootBuiltins D=some (.type t.nm))(d:bootBuiltins C=some (.type T.nm))(B:zx X xr e m)(z:Gl X "isinstance":=by rfl)(q:Gl X D:=by rfl)(o:Gl X C:=by rfl)
  (i:D ≠ "__name__":=by decide)(r:yo D:=by decide)(g:C ≠ "__name__":=by decide)(J:yo C:=by decide)
  (Z:starEach [.Name D a,.Name C P] X.env=(false,eval (.Name D a) X.env)::starEach [.Name C P] X.env:=by rfl)(u:starEach [.Name C P] X.env=(false,eval (.Name C P) X.env)::starEach [] X.env:=by rfl)
  (I:starEach [e,.Tuple [.Name D a,.Name C P] K pt] X.env=(false,eval e X.env)::starEach [.Tuple [.Name D a,.Name C P] K pt] X.env:=by rfl)(Y:(backTo o7 (starEach [.Tuple [.Name D a,.Name C P] K pt] X.env)).any (·.1)=false:=by rfl):
  zx X xr (.Call (.Name "isinstance" p) [e,.Tuple [.Name D a,.Name C P] K pt] [] o7) (X6 t T m):=by
 simp only[zV,Mc]at*;exact PE.imp (Z3 Bq z U (by rfl) (jk B (jk (Mn (jk (G6 q n f (v:=.ty t.nm) rfl i r) (jk (G6 o j d (v:=.ty T.nm) rfl g J) j3 u) Z)) j3) I) (by decide) (by decide) I Y) λσ H Q ⟨φ,A,ρ,S,N,h⟩=>by
   refine tM.go S N (zS.mp h) λw A1 c H1 v I L x y=>?_;cases E:j6 w A1 with
   |none=>rw[E]at I;exact I.elim|some M=>
    rw[E]at I;refine⟨by show 2<=sizeLine;decide,λl b=>⟨v,M,l,rfl,qA.of jR,?_,I c _ _ (L.trans (Le.new b)) (x.lay b) rfl⟩⟩
    exact OQ (x.lay b) (y.mono (Le.new b)) E
def Kt {m:Ev}(p:zx X xr e m)(g:wL X tg tw)(f:swapsWithSole [tg] e o7.line X.env=pure false:=by rfl)(o:swappedStores [tg] e X.env=pure none:=by rfl)(i:(assignEach [tg] X.env).map (·.2)=[assign tg X.env]:=by rfl):yC X xr (.Assign [tg] e o7) (Q0 m tw):=by
 simp only[zV,Mc]at*;exact PS.imp (Td p g f o i) λD y H ⟨x,A,j,S,n,h⟩=>by
   refine tM.go S n (zS.mp h) λw u a t v i l d q=>?_;cases E:tw w j with
   |none=>rw[E]at i;exact i.elim|some c=>
    rw[E]at i;exact⟨a,u,j,w,c,d,n.mono l,q,E,λb r=>i a t b l d r⟩
def KA {a:Expr}{b:Expr}{ma:Ev}{mb:Ev}{pt:Pos}{U:Nat}(i j:Nat){y:Str}{P T p:Pos}{Y:Nat}(t:X.calm=true)(C:X.N.Nodup)(B:zx X xr a ma)(u:zx X xr b mb)(r:X.N[i]? =some x:=by rfl)(o:X.N[j]? =some y:=by rfl)(d:i≠j:=by decide)
  (g:X.env.scope.names.lookup x=some .local:=by rfl)(f:X.env.scope.names.lookup y=some .local:=by rfl)
  (hw:swappedStores [.Tuple [.Name x P,.Name y T] U pt] (.Tuple [a,b] Y p) X.env=pure (some [x,y]):=by rfl)
  (n:swapsWithSole [.Tuple [.Name x P,.Name y T] U pt] (.Tuple [a,b] Y p) o7.line X.env=pure false:=by rfl)
  (h1:jb a [b] X:=by rfl)(Z:jb b [] X:=by rfl):
  yC X xr (.Assign [.Tuple [.Name x P,.Name y T] U pt] (.Tuple [a,b] Y p) o7) (XD i j ma mb):=by
 simp only[zV,Mc]at*;exact PS.imp (da t C r o d g f (jk B (jk u j3 Z) h1) hw n) λD σ H ⟨φ,A,ρ,S,M,h⟩=>by refine tM.go S M (zS.mp h) λw A1 e H1 v h1 l I Q=>?_;refine tM.go I (M.mono l) (qw (zS.mp h1) (λ_ _ z=>z) λ_ _ z=>z.mono l) λK A2 c J v2 Z L E q=>?_;exact⟨v,v2,rfl,Z c J _ (l.trans L) E (((M.mono (l.trans L)).set (Q.mono L)).set q)⟩
end
section
def Px {a:Expr}{b:Expr}{L:Ev}{M:Ev}(C:zx X xr a L)(P:zx X xr b M)(B:jb b [] X:=by rfl)
  (e:attributeBase a "extend" X.env (eval a X.env)=eval a X.env:=by rfl)
  (w:((backTo oH (starEach [b] X.env)).all (λx=>!x.1)&&(backToKw oH (keywordEach [] X.env)).all (λx=>x.1.isSome)
   && decide ([b].length+([]:b0).length+(if ([]:b0).isEmpty then 0 else 1)<30))=true:=by rfl)(h:(oM.endLine==oH.line)=true:=by rfl):
  zx X xr (.Call (.Attribute a "extend" oM) [b] [] oH) (yM Jl L M):=by
 simp only[zV,Mc]at*;exact Xv PySem.F.slot_list_extend (by kernel_rfl) D4 Cd (λY A H x y u v Q S j q p=>by
   unfold Jl at p;cases u with
   |ref n=>
    cases v with
    |ref k=>
     dsimp only at p;cases c:A[n]? with
     |none=>rw[c]at p;exact p.elim|some o=>cases o with
      |lst J=>
       cases E:A[k]? with
       |none=>rw[c,E]at p;exact p.elim|some t=>cases t with
        |lst U=>
         rw[c,E]at p;dsimp only at p
         by_cases d:J.length+U.length<=zT
         ·rw[ai d]at p
          obtain⟨l,I,rfl,N,K,f⟩:=S.lst j c;obtain⟨D,Z,rfl,f2,T,r⟩:=S.lst q E;refine⟨l,D,I,Z,rfl,rfl,K,T,?_,?_⟩
          ·rw[<- f.length,<- r.length]
           have:sizeLine=16777216:=sizeLine_eq
           unfold zT at d;lia
          ·obtain⟨i,g⟩:=S.write (o:=.lst J) (o':=.lst (J++U)) c rfl rfl N (u:=.lst (I++Z)) ⟨I++Z,jR,(f.append r).mono (Le.upd N (λ_ z=>by rw[K]at z;cases z) λ_ _ z=>by rw[K]at z;cases z)⟩
           exact p _ _ _ i g rfl
         ·rw[aj d]at p;exact p.elim
        |_=>rw[c,E]at p;exact p.elim
      |_=>rw[c]at p;cases E:A[k]? with|none=>rw[E]at p;exact p.elim|some _=>rw[E]at p;exact p.elim
    |_=>exact p.elim
   |_=>cases v<;>exact p.elim) C P B e w h
def EX {m:Ev}{P:Pos}(n:X.calm=true)(D:X.mg "len"=none)(c:X.mg "set"=none)(o:zx X xr e m)(j:Gl X "len":=by rfl)(d:Gl X "set":=by rfl)(f:jb e [] X:=by rfl)
  (b:starEach [.Call (.Name "set" P) [e] [] oP] X.env=(false,eval (.Call (.Name "set" P) [e] [] oP) X.env)::starEach [] X.env:=by rfl):
  zx X xr (.Call (.Name "len" p) [.Call (.Name "set" P) [e] [] oP] [] o7) (ir m):=by
 simp only[zV,Mc]at*;exact PE.imp (Z3 D9 j D (by rfl) (jk (Kk (E9 n) d c (by rfl) (jk o j3 f) (by decide) (by decide) f (by rfl)) j3 b) (by decide) (by decide) b (by rfl)) λK H Q ⟨J,A,M,S,C,h⟩=>by
   refine tM.go S C (zS.mp h) λw Y i U v y L x q=>?_;cases w with
   |tup B=>
    obtain⟨a,T,rfl,t,r⟩:=q;unfold Nn at y;dsimp only at y
    revert y
    cases u:intsOf B with
    |none=>intro y;exact y.elim|some N=>
     intro y;dsimp only at y;have E:=Gx u;subst E;have I:=zE.ints.mp r;subst I
     by_cases z:N.length<=100
     ·rw[ai z]at y
      refine⟨a,N,rfl,t,z,λl g=>⟨l,_,_,rfl,jR,a4 (firstMet_length_le _ _) z,?_⟩⟩;exact y _ _ _ (L.trans (Le.new g)) (x.lay g) rfl
     ·rw[aj z]at y;exact y.elim
   |_=>exact y.elim
def GY {a:Expr}{b:Expr}{c:Ev}{M:Ev}(H:zx X xr a c)(h:zx X xr b M):zx X xr (.BinOp a .LShift b o7) (zj iw c M):=by simp only[zV,Mc]at*;exact Zl dB Wb (KO Nr λ_ _ _ _=>rfl) H h
end
def OD {a:Expr}{b:Expr}{c:Ev}{M:Ev}(H:zx X xr a c)(h:zx X xr b M):zx X xr (.BinOp a .Mult b o7) (zj Jw c M):=by simp only[zV,Mc]at*;exact Zl iy As Bx H h
@[irreducible] def JR (X:Cx)(x:XR)(e:Option Expr)(p:Po):Prop:=Mi.SP X x e p
def iQ:@JR=@Mi.SP:=by delta JR;rfl
def Mg:JR X xr none WB:=by simp only[zV,Mc,iQ]at*;exact PO.imp dZ λb H Q ⟨a,A,c,S,r,h⟩=>h a H .refl S
def Nq {m:Ev}(h:zx X xr e m):JR X xr (some e) (Qo m):=by simp only[zV,Mc,iQ]at*;exact Mi.Ml h
def wB {a b:Expr}{c M:Ev}(H:zx X xr a c)(h:zx X xr b M):zx X xr (.BinOp a .FloorDiv b o7) (zj Wg c M):=by simp only[zV,Mc]at*;exact Zl CT Wb (KO BV λ_ _ _ _=>rfl) H h
def iR {m:Ev}(i j k:Nat){y z:Str}{q r pp:Pos}(hc:X.calm=true)(g:X.N.Nodup)(he:zx X xr e m)(Y:X.N[i]? =some x:=by rfl)(M:Loc X.env.scope x:=by first|exact Or.inl rfl|exact Or.inr rfl)(hf:gM X x:=by first|exact .inl rfl|exact .inr rfl)
  (U:X.N[j]? =some y:=by rfl)(K:Loc X.env.scope y:=by first|exact Or.inl rfl|exact Or.inr rfl)(hg:gM X y:=by first|exact .inl rfl|exact .inr rfl)
  (T:X.N[k]? =some z:=by rfl)(J:Loc X.env.scope z:=by first|exact Or.inl rfl|exact Or.inr rfl)(Z:gM X z:=by first|exact .inl rfl|exact .inr rfl)
  (P:swapsWithSole [.Tuple [.Name x p,.Name y q,.Name z r] n pp] e o7.line X.env=pure false:=by rfl)(hw:swappedStores [.Tuple [.Name x p,.Name y q,.Name z r] n pp] e X.env=pure none:=by rfl)
  (h1:(assignEach [.Tuple [.Name x p,.Name y q,.Name z r] n pp] X.env).map (·.2)=[assign (.Tuple [.Name x p,.Name y q,.Name z r] n pp) X.env]:=by rfl):
  yC X xr (.Assign [.Tuple [.Name x p,.Name y q,.Name z r] n pp] e o7) (Wi i j k m):=by
 simp only[zV,Mc]at*;exact PS.imp (Td he (iA hc (Z2 (Z6 g Y M hf) (Z2 (Z6 g U K hg) (Z2 (Z6 g T J Z) GQ)))) P hw h1) λD σ H ⟨φ,A,ρ,S,re,h⟩=>by
   refine tM.go S re (zS.mp h) λw A1 f H1 v h1 L C Q=>?_;cases w with
   |ref n=>
    dsimp only at h1;cases E:A1[n]? with
    |none=>rw[E]at h1;exact h1.elim|some o=>
     rw[E]at h1
     split at h1
     ·rename_i o' a b c eo
      cases eo;obtain⟨l,xs,rfl,f1,g1,I⟩:=C.lst Q E;obtain⟨v1,r',rfl,B,v2,r2,rfl,u,d,r3,rfl,t,rfl⟩:=I;exact⟨l,[v1,v2,d],rfl,.of g1,rfl,v1,[v2,d],rfl,v2,[d],rfl,d,[],rfl,rfl,h1 f H1 _ L C ((((re.mono L).set B).set u).set t)⟩
     ·exact h1.elim
   |_=>exact h1.elim
def OW {m:Ev}{lo q:Option Expr}{P pu:Po}{B:Pos}(he:zx X xr e m)(I:JR X xr lo P)(C:JR X xr q pu):zx X xr (.Subscript e (.Slice lo q none B) o7) (Yz m P pu):=by
 simp only[zV,Mc,iQ]at*;exact PE.imp (BA AK he I C) λσ H Q ⟨φ,A,ρ,S,re,h⟩=>by
   refine tM.go S re (zS.mp h) λw A1 g H1 v h1 L U y=>?_;refine⟨g,A1,ρ,U,re.mono L,qw (zS.mp h1) (λl A2 h2 f H2 c T=>?_) λ_ _ z=>z.mono L⟩;refine⟨f,A2,ρ,T,(re.mono L).mono c,qw (zS.mp h2) (λu Z b d Y j t=>?_) λ_ _ z=>z.mono (L.trans c)⟩;have i:=(L.trans c).trans j;cases w with
   |ref n=>
    dsimp only at b;cases E:Z[n]? with
    |none=>rw[E]at b;exact b.elim|some o=>cases o with
     |lst ws=>
      rw[E]at b;dsimp only at b;obtain⟨a,vs,rfl,J,M,r⟩:=t.lst ((y.mono c).mono j) E;have hlen:ws.length=vs.length:=r.length;refine⟨a,vs,rfl,qS.of M,λp D=>?_⟩;have x:zE X.K d Y (Wv ws l u) (YT vs l u):=by unfold Wv YT;rw[hlen];exact zE.take _ (zE.drop _ r)
      obtain⟨a1,a2,N⟩:=QR t D x;exact b _ _ _ (i.trans a1) a2 N
     |_=>rw[E]at b;exact b.elim
   |_=>exact b.elim
section
variable {a b:Expr}{ma mb:Ev}
def Pn (f:zx X xr a ma)(z:zx X xr b mb)(d:jb b [] X:=by rfl)
  (e:attributeBase a "count" X.env (eval a X.env)=eval a X.env:=by rfl)
  (w:((backTo oH (starEach [b] X.env)).all (λx=>!x.1)&&(backToKw oH (keywordEach [] X.env)).all (λx=>x.1.isSome)
   && decide ([b].length+([]:b0).length+(if ([]:b0).isEmpty then 0 else 1)<30))=true:=by rfl)(h:(oM.endLine==oH.line)=true:=by rfl):
  zx X xr (.Call (.Attribute a "count" oM) [b] [] oH) (yM Yp ma mb):=by
 simp only[zV,Mc]at*;exact Xv PySem.F.slot_list_count PySem.F.type_list_count DE Di (λj A H x y u v Q S c q p=>by
   unfold Yp at p;cases u with
   |ref n=>
    dsimp only at p;cases E:A[n]? with
    |none=>rw[E]at p;exact p.elim|some o=>cases o with
     |lst r=>
      rw[E]at p;dsimp only at p
      by_cases g:(yu v&&r.all yu)=true
      ·rw[ai g]at p
       rw[ak]at g;obtain⟨l,rfl,D⟩:=c;obtain⟨L,i,t,C,B⟩:=S.ob n _ E;rw[D]at i;cases i;obtain⟨c1,c2⟩:=Ua q g.1 B g.2;refine⟨l,t,y,rfl,rfl,qS.of C,Kl q g.1,c1,?_⟩;rw[c2]
       have:=p j H _ .refl S rfl
       rw[GP]at this;simpa using this
      ·rw[aj g]at p;exact p.elim
     |_=>rw[E]at p;exact p.elim
   |_=>exact p.elim) f z d e w h
variable {m:Ev}
def C7 (H:zx X xr a ma)(h:zx X xr b mb):zx X xr (.BinOp a .BitAnd b o7) (zj iG ma mb):=by simp only[zV,Mc,iQ]at*;exact Zl dD Qh (Qe λ_ _ _ _=>rfl) H h
def Ap (c:zx X xr a ma)(H:zx X xr b mb):zx X xr (.BinOp a .RShift b o7) (zj iH ma mb):=by simp only[zV,Mc,iQ]at*;exact Zl dC Wb (KO (λ_ _ h=>of_decide_eq_true h) λ_ _ _ _=>rfl) c H
def Ck (h:zx X xr e m)(j:∀f,isTrue e X.env f=(do let v <- f;standAt e.pos;holding [v] (truthy v)):=by intro _;rfl):yz X xr e (iI m):=by
 simp only[zV,Mc,iQ]at*;exact PT.imp (C6 h j) λp H Q ⟨o,A,t,S,r,h⟩=>by
   refine tM.go S r (zS.mp h) λw u a n v g l d c=>?_;cases w with
   |int i=>
    obtain rfl:=c;obtain⟨b,E,q⟩:=g;cases E;exact⟨i != 0,rfl,q a n l d⟩
   |_=>exact g.elim
end
section
def Cg {C:Expr}{m M:Ev}{P:Pos}(K:zx X xr e m)(g:zx X xr C M):zx X xr (.Subscript e (.Slice none none (some C) P) o7) (T8 m M):=by
 simp only[zV,Mc,iQ]at*;exact PE.imp (iK K (Mi.Ml g)) λσ H Q ⟨Z,A,I,S,D,h⟩=>by
   refine tM.go S D (zS.mp h) λw Y b H1 v N l x q=>?_;refine⟨b,Y,I,x,D.mono l,qw (zS.mp N) (λo U B f y L d=>?_) λ_ _ z=>z.mono l⟩;cases w with
   |ref n=>
    dsimp only at B;cases E:U[n]? with
    |none=>rw[E]at B;exact B.elim|some ob=>cases ob with
     |lst ws=>
      rw[E]at B;dsimp only at B
      by_cases c:o=some (-1)
      ·rw[ai c]at B
       obtain⟨a,J,rfl,j,t,r⟩:=d.lst (q.mono L) E;refine⟨c,a,J,rfl,qS.of t,λp i=>?_⟩;obtain⟨T,a2,u⟩:=QR d i (zE.rev r);exact B _ _ _ ((l.trans L).trans T) a2 u
      ·rw[aj c]at B;exact B.elim
     |_=>rw[E]at B;exact B.elim
   |_=>exact B.elim
def P9 {M:Ev}(z:Nat)(y:bS)(d:X.calm=true)(S:gw X sc)(p:ZP X.N N sc z y=true)(C:Qg X)(E:ku X xr tg o8 mi)
  (n:∀s H fp,Qg (jz X N sc s H fp j5)->wL (jz X N sc s H fp j5) tg tw/\gX (jz X N sc s H fp j5) ifs M/\gR (jz X N sc s H fp j5) oN (⟨tg,o8,ifs,0⟩::gs) sc o7 0 em)
  (i:∀g',gs[0]? =some g'->g'.is_async=0:=by intro _ h;cases h<;>rfl)
  (c:∀x,foldedSetIterable o8 X.env x=pure x:=by intro _;rfl):Zx X xr (.ListComp oN (⟨tg,o8,ifs,0⟩::gs) sc o7) (qy z y mi tw M em):=by
 simp only[zV,Mc,iQ]at*;intro P s A H Q I h;rw[eval_ListComp];refine UH (use:=none) (g:=tG X.K tw) (ti:=tT X.K jO M) (tm:=tE X.K em) d S p i E (λs H fp t w=>n s H fp (Dz S C t)) I (qy.read A H Q h) (λD C B v m u q J T L r l j=>?_) c;exact⟨m,J,λU a=>⟨.ref D,v,u.turned (t':=B.toks) (λb o f e=>(a.2 b f).trans e) T L (.inr r) l j,rfl,q⟩⟩
variable {K:Frag}{st:Stmt}{c:Addr}{ps:bU}{k:Nat}{m:Ex}
def iS (F:kL K x x st f fd)(n:nsIn K mainGlobals x=some (some (.ref f)))(t:tabIn K x=some (c,Pt))(S:kO N ps (qf st))
  (h:∀(A:Around)(o:bY)(s:Shared)(H:Hp)(E:XK),jd k (A.deeper (envOfC x (qf st) s.heap.objs.size f (.ref c)))->yI (yO kq P w K mg base N x (qf st) f (.ref c) A o s H E).nox jO (jV st) m):
  yh P w K mg base kq (k+1) f fd ps (g9 K ps.length (qm N.length m)):=by
 simp only[zV,Mc,iQ]at*;exact Mi.Lr F n t S h
def iT (F:kL K x x st f fd)(n:nsIn K mainGlobals x=some (some (.ref f)))(t:tabIn K x=some (c,Pt))(a:mg x=some (.ref f))(S:kO N ps (qf st))
  (b:∀(kV d p:Value)(e:b8)(C ct:Value)(u:bP),u.length=ps.length->bindArgs (fnOf x x (gU st) (jV st) (qf st) .none kV d p e C ct) ⟨u,[]⟩=pure (ps.zip u))
  (h:∀(A:Around)(o:bY)(s:Shared)(H:Hp)(E:XK),jd k (A.deeper (envOfC x (qf st) s.heap.objs.size f (.ref c)))->yI (yO kq P w K mg base N x (qf st) f (.ref c) A o s H E).nox jO (jV st) m):
  qG P w K mg base (k+1) x ps.length (qm N.length m):=by
 simp only[zV,Mc,iQ]at*;exact⟨f,fd,ps,Mi.Lr F n t S h,a,F.kp,F.binds b⟩
end
def DU {m:Ev}(B:X.calm=true)(J:X.mg "sorted"=none)(j:zx X xr e m)(g:Gl X "sorted":=by rfl)(c:jb e [] X:=by rfl):zx X xr (.Call (.Name "sorted" p) [e] [] o7) (Tf m):=by
 simp only[zV,Mc]at*;exact PE.imp (Z3 Fo g J (by rfl) (jk j j3 c) (by decide) (by decide) c (by rfl)) λY H Q ⟨U,A,Z,S,I,h⟩=>by
   refine tM.go S I (zS.mp h) λw T b H1 v C L d q=>?_;cases w with
   |ref n=>
    unfold Xq at C;dsimp only at C;cases E:T[n]? with
    |none=>rw[E]at C;exact C.elim|some u=>cases u with
     |lst D=>
      rw[E]at C;dsimp only at C;obtain⟨P,y,rfl,o,x,r⟩:=d.lst q E;cases i:Qi D with
      |none=>rw[i]at C;exact C.elim|some K=>
       rw[i]at C;dsimp only at C;obtain⟨t,N⟩:=Oh i;subst t
       by_cases a:K.length<64/\Ww K=true
       ·rw[ai a]at C
        refine⟨P,y,K,b,rfl,qS.of x,r,N,a,λl f=>?_⟩;obtain⟨M,a2,z⟩:=QR d f r;exact C _ _ _ (L.trans M) a2 z
       ·rw[aj a]at C;exact C.elim
     |_=>rw[E]at C;exact C.elim
   |_=>exact C.elim
section
variable {y:Str}{k:Nat}{g:Fn}{hp0:Heap}
def Gu {t:Lm}{j:Nat}{q:Str}{c:Addr}{P:Pos}{RF:Nat->List W->Hx->R W}(C:Qg X)(hl:YE X.base X.prog X.w X.K X.mg j q t)(L:Wh X.N X.env.scope t=true)
  (hR:∀base PG,(∀k,QU X.prog X.w X.K X.mg base (j+1) (PG k) (w6 [t] k))->qG X.prog X.w X.K X.mg base kk x 1 (Qn PG RF))(hr:jd kk X.A)
  (hB:BMain X.mg X.base)(f:X.env.code=.ref c)(hC:CodeHd X.base c Pt)(d:X.env.qual ++ "<lambda>"=q)(u:defaultsOf t.params X.env=([],[]))(hg:Gl X x:=by rfl)(hdb:yo x:=by decide)
  (he:starEach [.Lambda t.params t.body t.scope P] X.env=(false,eval (.Lambda t.params t.body t.scope P) X.env)::starEach [] X.env:=by rfl)(Y:kX o7 [] X:=by rfl):
  zx X jO (.Call (.Name x p) [.Lambda t.params t.body t.scope P] [] o7) (wg n q Pt t.idx (RF 0)):=by
 simp only[zV,Mc,iQ]at*;intro o6 s σ H Q I ⟨φ,A,ρ,S,re,h⟩;unfold wg at h;cases E:A[n]? with
 |none=>rw[E]at h;exact h.elim|some o=>cases o with
  |tab q' P'=>
   rw[E]at h;dsimp only at h
   by_cases hc:q'=q/\P'=Pt
   ·rw[ai hc]at h
    cases ec:gF t.idx ρ with
    |none=>rw[ec]at h;exact h.elim|some ws=>
     rw[ec]at h;dsimp only at h;obtain⟨fa,fd,ps,F,hm,hk,hb⟩:=hR _ _ (PR (q:=q) I C hl (G1 L));refine wpAny_Call_Name_kw (Yo I hg hm ?_ hdb);have hS:SA X jO [.Lambda t.params t.body t.scope P] (zi (Qq n q Pt 0 (gJ X.env q [t] 0)) zu):=Mi.Kv (Nv (ls:=[t]) rfl L hB f hC d u) Mi.Xl;refine callWith_K (h₀:=X.base) I.ok.mod.kin hk (zQ (hS o7 o6 s σ H (λvs H1=>∃b,Le X.K φ H b H1/\zL X.K b A H1/\zE X.K b H1 [.clo 0 ws (gf X.env q [t] σ 0)] vs) I ⟨φ,A,ρ,S,re,?_⟩) λus s1 ⟨vs,H1,B,r1,b,l,S1,D⟩=>⟨B.kIn,?_⟩) he Y
     ·have em:zi (Qq n q Pt 0 (gJ X.env q [t] 0)) zu ρ A=.ok [.clo 0 [] (gJ X.env q [t] 0)] A:=by
       unfold zi Qq;rw[E];dsimp only;rw[ai hc]
       rfl
      rw[em];intro b H1 vs l S1 q1;refine⟨b,l,S1,?_⟩;obtain⟨v,r',rfl,hv,U⟩:=q1;obtain rfl:r'=[]:=U;obtain⟨a,ob,u0,c0,oc,uc,vs0,rfl,g1,g2,⟨t',et',gp⟩,_⟩:=hv;cases et';obtain⟨M,cv,D⟩:=Ul (re.mono l) ec;exact .one ⟨a,ob,u0,c0,oc,uc,M,rfl,g1,g2,⟨t,rfl,gp,cv⟩,D⟩
     ·have e0:=(Ks B C).1
      obtain⟨fa',fd',T,F',i,hk',hb'⟩:=hR _ _ (PR (q:=q) B C hl (G1 L));rw[hm]at i;cases i;have g:g9 X.K 1 (Qn (gf X.env q [t] σ) RF) vs H1 Q E0:=by
       refine⟨by rw[<- D.length];rfl,b,A,[.clo 0 ws (gf X.env q [t] σ 0)],S1,D,?_⟩
       unfold Qn;dsimp only;rw[ai rfl];exact qw h (λ_ _ z=>z.mono l) λy A2 z J H2 l2 S2=>((z.mono l) J H2 l2 S2).elim
      have Z:=F'.len _ _ _ _ g;have hu:us.length=T.length:=by rw[<- r1.length];exact Z
      refine wpAny_call (codeAny_mono (F'.run X.A X.stack s1 H1 ⟨[]++us,[]⟩ us vs Q E0 hr e0 ?_ r1 g) λr s2 d=>?_)
      ·have:=hb' s1 us B.kIn (by rw[aX];exact hu)
       rw[aX]at this;exact this
      ·cases r with
       |error e=>exact False.elim d|ok fl=>
        cases fl with|ret u1=>exact B.after d|next=>exact False.elim d|brk=>exact False.elim d|cont=>exact False.elim d
   ·rw[aj hc]at h;exact h.elim
  |_=>rw[E]at h;exact h.elim
def P6 (xo:wm X hp0 xr)(L:Qb X.prog X.w X.K X.mg X.base k PK g)(hr:jd k X.A)(ha:gj X xr [e] mr)(hl:Zt mr 1)(hi:X.N[i]? =some y:=by rfl)(P:Y4 X.env.scope y:=by first|exact Or.inl rfl|exact Or.inr (Or.inl rfl)|exact Or.inr (Or.inr rfl))
  (hdb:yo y:=by decide)(hcd:(y==("__classdict__":Str))=false:=by decide)(he:jb e [] X:=by rfl)(U:kX o7 [] X:=by rfl):
  zx X xr (.Call (.Name y p) [e] [] o7) (QO i PK g mr):=by
 simp only[zV,Mc,iQ]at*;intro o6 s σ H Q I ⟨φ,A,ρ,S,re,h⟩;unfold QO at h;cases E:ρ[i]? with
 |none=>rw[E]at h;exact h.elim|some ow=>cases ow with
  |none=>rw[E]at h;exact h.elim|some w0=>cases w0 with
   |clo k0 D P0=>
    rw[E]at h;dsimp only at h
    by_cases hP:P0=PK
    ·rw[ai hP]at h
     subst hP;obtain⟨v,M,a,ob,u,c,oc,uc,d,rfl,h1,h2,Y,J⟩:=re.get i _ E;obtain⟨⟨fd0,hfd⟩,fd,ps,F1,n⟩:=L a ob u c oc uc d Y;have ho:s.heap.get? a=some ob:=(show qX X.prog X.w H s.heap a (.frz ob u) from I.hok a _ h1).1
     refine wpAny_Call_Name_kw (zQ (NV hi P hdb hcd o6 s σ H (λv' H'=>v'=.ref a/\H'=H) I ⟨_,M,rfl,rfl⟩) λu0 s0 ⟨v0,H0,I0,r0,e0,e1⟩=>?_);subst e0;subst e1;obtain rfl:u0=Value.ref a:=r0;have f:∀{s:Shared}{H:Hp},Inv X o6 σ H s->H a=some (.frz ob u)->Frag.In [(a,ob)] s.heap:=λ {s H} I h1 b o e=>by
      rw[bF]at e
      by_cases n:b=a
      ·subst n
       simp at e;subst e;exact(show qX X.prog X.w H s.heap b (.frz ob u) from I.hok b _ h1).1
      ·have:(b==a)=false:=by simpa using n
       rw[this]at e;cases e
     have Z:keepIn [(a,ob)] (.ref a)=true:=by
      unfold keepIn;obtain⟨o1,o2,o3,o4⟩:=ob;cases (show o3=_ from hfd)
      simp[bF]
     have h':=zS.mp h;refine callWith_K (K:=[(a,ob)]) (h₀:=s0.heap) (f I0 h1) Z (zQ (ha o7 o6 s0 σ H0 (λvs H1=>Sd X.K a ob u c oc uc d g vs H1 Q (Ro X.K xr)) I0 ⟨φ,A,ρ,S,re,?_⟩) λus s1 ⟨vs,H1,x,r,q⟩=>?_) he U
     ·cases t:mr ρ A with
      |ok ws A1=>
       rw[t]at h';intro C H1 vs l S1 q1;have P:vs.length=1:=by rw[<- q1.length];exact hl ρ A ws A1 t
       refine⟨P,l.fz _ _ _ h1,l.fz _ _ _ h2,C,A1,ws++D,S1,q1.append (zE.mono J l),qw h' (λ_ _ z=>z.mono l) λy A2 z B H2 l2 S2 Ca hC=>?_⟩;exact⟨y,Ca,rfl,hC,z B H2 (l.trans l2) S2⟩
      |exc y A1=>rw[t]at h';exact h'|bad=>rw[t]at h';exact h'
     ·have T:us.length=1:=by rw[<- r.length];cases q with|mk e=>exact e
      refine⟨f x (by cases q with|mk _ z=>exact z),?_⟩
      have hln:=F1.len _ _ _ _ q;refine wpAny_call (codeAny_mono (F1.run X.A X.stack s1 H1 ⟨[]++us,[]⟩ us vs Q (Ro X.K xr) hr x.env0 (n s1 us T) r q) λr s2 j=>?_);cases r with
      |error e=>exact xo.passes o6 σ H1 s1 e s2 x j|ok fl=>
       cases fl with|ret u1=>exact x.after j|next=>exact False.elim j|brk=>exact False.elim j|cont=>exact False.elim j
    ·rw[aj hP]at h;exact h.elim
   |_=>rw[E]at h;exact h.elim
def Dv {t:Lm}{j:Nat}{q y:Str}{c:Addr}{P p3:Pos}{E:Expr}{m1:Ev}{g:W->List W->Hx->R W}(C:Qg X)(hl:Sb X.prog X.w X.K X.mg j q y t)(L:Wh X.N X.env.scope t=true)(h1:zx X jO E m1)
  (hN:∀base,wZ X.base base->∀PK,(∀b,wZ base b->Qb X.prog X.w X.K X.mg b (j+1) PK λws A=>t.m (ws.map some) A)->qG X.prog X.w X.K X.mg base kk x 2 (fN PK))(hG:∀PK w ws A,Hand fN g PK w ws A)(hr:jd kk X.A)
  (hB:BMain X.mg X.base)(u:X.env.code=.ref c)(hC:CodeHd X.base c Pt)(l:X.env.qual ++ "<lambda>"=q)(U:defaultsOf t.params X.env=([],[]))(hg:Gl X x:=by rfl)(hdb:yo x:=by decide)
  (hs0:starEach [.Lambda t.params t.body t.scope P] X.env=(false,eval (.Lambda t.params t.body t.scope P) X.env)::starEach [] X.env:=by rfl)
  (hs1:starEach [.List [.Lambda t.params t.body t.scope P] p3] X.env=(false,eval (.List [.Lambda t.params t.body t.scope P] p3) X.env)::starEach [] X.env:=by rfl)
  (he:starEach [E,.List [.Lambda t.params t.body t.scope P] p3] X.env=(false,eval E X.env)::starEach [.List [.Lambda t.params t.body t.scope P] p3] X.env:=by rfl)(hpl:(backTo o7 (starEach [.List [.Lambda t.params t.body t.scope P] p3] X.env)).any (·.1)=false:=by rfl):
  zx X jO (.Call (.Name x p) [E,.List [.Lambda t.params t.body t.scope P] p3] [] o7) (Yt n q Pt t.idx m1 g):=by
 simp only[zV,Mc,iQ]at*;intro o6 s σ H Q I ⟨φ,A,ρ,S,re,h⟩;unfold Yt at h;have hix:=G1 L;have J:∀{H' s'}(I':Inv X o6 σ H' s')(b:Heap),wZ (gA X.base s'.heap X.env.cells) b->Qb X.prog X.w X.K X.mg b (j+1) (gf X.env q [t] σ 0) λws A=>t.m (ws.map some) A:=λ {H' s'} I' b sb=>
  iM hl λvs hvs=>(OP (base:=gA X.base s'.heap X.env.cells) I' (λy cc v e ⟨o,ho,hd⟩=>⟨o,Pm e ho,hd⟩) hix hvs).sub sb
 obtain⟨fa,fd,ps,F,hm,hk,hb⟩:=hN _ (Ks I C).2 _ (J I);refine wpAny_Call_Name_kw (Yo I hg hm ?_ hdb);have hS:SA X jO [E,.List [.Lambda t.params t.body t.scope P] p3] (zi m1 (zi (qL (zi (Qq n q Pt 0 (gJ X.env q [t] 0)) zu)) zu)):=Mi.Kv h1 (Mi.Kv (Mi.OZ (Mi.Kv (Nv (ls:=[t]) rfl L hB u hC l U) Mi.Xl hs0) (zw zO)) Mi.Xl hs1) he;refine callWith_K (h₀:=X.base) I.ok.mod.kin hk (zQ (hS o7 o6 s σ H (λvs H1=>∃d A1 w ws,Le X.K φ H d H1/\zL X.K d (A1++[.lst [.clo 0 ws (gf X.env q [t] σ 0)]]) H1/\zE X.K d H1 [w,.ref A1.length] vs/\(g w ws A1).post (PB X.K φ H Q) (EB X.K φ H jO)) I ⟨φ,A,ρ,S,re,?_⟩) λus s1 ⟨vs,H1,D,r1,d,A1,w,ws,Z,S1,Y,hp⟩=>⟨D.kIn,?_⟩) he hpl
 ·have h':=zS.mp h
  unfold zi;refine zS.mpr (qw h' (λw A1 h2=>?_) λ_ _ z=>z);cases eA:A1[n]? with
  |none=>rw[eA]at h2;exact h2.elim|some o=>cases o with
   |tab q' P'=>
    rw[eA]at h2;dsimp only at h2
    by_cases hc:q'=q/\P'=Pt
    ·rw[ai hc]at h2
     cases ec:gF t.idx ρ with
     |none=>rw[ec]at h2;exact h2.elim|some ws=>
      rw[ec]at h2;dsimp only at h2;have em:Qq n q Pt 0 (gJ X.env q [t] 0) ρ A1=.ok (.clo 0 [] (gJ X.env q [t] 0)) A1:=by unfold Qq;rw[eA];exact ai hc
      have e2:=zr (jI (zr em zJ)) (zJ (ρ:=ρ));unfold zi at e2;rw[e2,zI];intro d H1 vs Z S1 q1;have en:(A1++[O.lst [.clo 0 [] (gJ X.env q [t] 0)]])[A1.length]? =some (.lst [.clo 0 [] (gJ X.env q [t] 0)]):=List.getElem?_concat_length;have S2:=S1.tell (ws:=[.clo 0 ws (gf X.env q [t] σ 0)]) en λvs ⟨v,r',ev,hv,f⟩=>by subst ev;obtain rfl:r'=[]:=f;obtain⟨a,ob,u0,c0,oc,uc,vs0,rfl,g1,g2,⟨t',et',gp⟩,_⟩:=hv;cases et';obtain⟨vs1,cv,Y⟩:=Ul (re.mono Z) ec;exact .one ⟨a,ob,u0,c0,oc,uc,vs1,rfl,g1,g2,⟨t,rfl,gp,cv⟩,Y⟩
      rw[List.set_append_right _ _ (ao _),sub_self]at S2;exact⟨d,A1,w,ws,Z,S2,q1,h2⟩
    ·rw[aj hc]at h2;exact h2.elim
   |_=>rw[eA]at h2;exact h2.elim
 ·have e0:=(Ks D C).1
  obtain⟨fa',fd',ps',F',T,hk',hb'⟩:=hN _ (Ks D C).2 _ (J D);rw[hm]at T;cases T;have M:g9 X.K 2 (fN (gf X.env q [t] σ 0)) vs H1 Q E0:=by
   refine⟨by rw[<- Y.length];rfl,d,A1++[.lst [.clo 0 ws (gf X.env q [t] σ 0)]],[w,.ref A1.length],S1,Y,?_⟩
   rcases hG (gf X.env q [t] σ 0) w ws A1 with e|⟨v,B,n',us',ws2,E,nr,e2,a1,nr2,b1,b2⟩
   ·rw[e]at hp;exact hp.elim
   ·rw[e2]at hp
    rw[E];intro φ2 H2 y l2 S3 r3;have la:n'<A1.length:=(cj.mp a1).1;obtain⟨S4,l4⟩:=S1.forget S3 l2 (n:=n') (us:=us') (ws2:=ws2) ((ah la).trans a1) (λi hi hn=>b2 i (by simpa using hi) hn) b1 nr2
    have eL:((A1++[O.lst [.clo 0 ws (gf X.env q [t] σ 0)]]).set n' (.lst ws2))[A1.length]? =some (.lst [.clo 0 ws (gf X.env q [t] σ 0)]):=by
     rw[au (by lia)]
     exact List.getElem?_concat_length
    have S5:=S4.tell (ws:=[.clo 0 [] PJ]) eL λvs ⟨v,r',ev,hv,f⟩=>by subst ev;obtain rfl:r'=[]:=f;obtain⟨a,ob,u0,c0,oc,uc,vs0,rfl,g1,g2,_,_⟩:=hv;exact .one ⟨a,ob,u0,c0,oc,uc,[],rfl,g1,g2,trivial,.nil⟩
    rw[List.set_comm _ _ (by lia),List.set_append_right _ _ (ao _),sub_self]at S5
    exact hp d H2 y (Z.trans l4) S5 (RV.nrm (λ_ _ t=>t) (λ_ _ _ t=>t) nr r3)
  have hln:=F'.len _ _ _ _ M;have hu:us.length=ps'.length:=by rw[<- r1.length];exact hln
  refine wpAny_call (codeAny_mono (F'.run X.A X.stack s1 H1 ⟨[]++us,[]⟩ us vs Q E0 hr e0 ?_ r1 M) λr s2 l=>?_)
  ·have:=hb' s1 us D.kIn (by rw[aX];exact hu)
   rw[aX]at this;exact this
  ·cases r with
   |error e=>exact False.elim l|ok fl=>
    cases fl with|ret u1=>exact D.after l|next=>exact False.elim l|brk=>exact False.elim l|cont=>exact False.elim l
end
def qG.up {K:Frag}{j k:Nat}{f:Fn}(F:qG P w K mg base j x n f)(h:j<=k:=by decide):qG P w K mg base k x n f:=F.mono h
def ym.up {K:Frag}{j k:Nat}{f:Fn}(F:ym P w K mg base j x n f)(h:j<=k:=by decide):ym P w K mg base k x n f:=F.mono h
section
variable {C:List Value->Prop}
theorem Vb (h:∀a,C [a]):∀us:bP,us.length=1->C us
 |[a],_=>h a
theorem Y3 (h:∀a b,C [a,b]):∀us:bP,us.length=2->C us
 |[a,b],_=>h a b
theorem Rh (h:∀a b c,C [a,b,c]):∀us:bP,us.length=3->C us
 |[a,b,c],_=>h a b c
theorem Rn (h:∀a b c d,C [a,b,c,d]):∀us:bP,us.length=4->C us
 |[a,b,c,d],_=>h a b c d
end
def kG {l:bU}(h:decide l.Nodup=true):l.Nodup:=of_decide_eq_true h
noncomputable def Ib (N P:bU)(S:Scope):Bool:=decide (S.kind=.function)&&(!S.isCoroutine&&(!S.isGenerator&&(decide N.Nodup&&(decide (N.take P.length=P)&&(P.all (λx=>decide (S.names.lookup x=some .local) || decide (S.names.lookup x=some .cell))&&S.names.all λy=>!decide (y.2=.free))))))
def JP {P:bU}(h:Ib N P sc=true):kO N P sc:=by unfold Ib at h;simp only[ak,aq,not_eq_true',aZ,a3,decide_eq_false_iff_not]at h;obtain⟨g,f,e,d,c,b,a⟩:=h;exact⟨g,f,e,d,c,b,λy H=>a y H⟩
section
def Yy {M:Ev}(l:Nat)(C:bS)(w:ku X xr tg o8 mi)
  (n:∀s H fp,wL (jz X N sc s H fp j5) tg tw/\gX (jz X N sc s H fp j5) ifs M/\gR (jz X N sc s H fp j5) oN (⟨tg,o8,ifs,0⟩::gs) sc o7 0 em)
  (c:X.calm=true:=by rfl)(S:gw X sc:=by exact cps (by kernel_rfl))(p:ZP X.N N sc l C=true:=by kernel_rfl)
  (b:∀g',gs[0]? =some g'->g'.is_async=0:=by intro _ h;cases h<;>rfl)
  (a:∀x,foldedSetIterable o8 X.env x=pure x:=by intro _;rfl):Zx X xr (.ListComp oN (⟨tg,o8,ifs,0⟩::gs) sc o7) (qy l C mi tw M em):=Bp l C c S p w n b a
def wj {d:Nat}(a:zx X jO oN me)(h:∀e s,X.xe e s->False:=by exactλ_ _ z=>z)(H:gens[d+1]? =none:=by rfl):gR X oN gens sc o7 d (ql me):=gV h a H
end
open PySem L2
abbrev zH:Ev:=zM 0
abbrev zF:Ev:=zM 1
abbrev qc:Ev:=zM 2
abbrev qi:Ev:=zM 3
abbrev qv:Ev:=zM 4
abbrev jw:Ev:=zM 5
abbrev yB:Ev:=zM 6
abbrev yR:Ev:=zM 7
abbrev kK:Ev:=zM 8
abbrev WH:Ev:=zM 9
abbrev JB:Ev:=zM 10
abbrev JJ:Ev:=zM 11
abbrev Qp:Ev:=zM 12
abbrev X7:Ev:=zM 13
abbrev XZ:Ev:=zM 14
abbrev Ly:Ev:=zM 15
abbrev qD:Ev:=qa (.int 0)
abbrev jv:Ev:=qa (.int 1)
abbrev Q2:Ev:=qa (.int 2)
abbrev YU:Ev:=qa (.int 3)
abbrev Va:Ev:=qa (.int 4)
abbrev JT:Ev:=qa (.int 5)
abbrev Vl:Ev:=qa (.int 7)
abbrev JW:Ev:=qa (.int 8)
abbrev LN:Ev:=qa (.int 9)
abbrev SV:Ev:=qa (.int 10)
abbrev q9:Ev:=qa (.bl true)
abbrev SY:Ev:=qa (.bl false)
abbrev WD:Ev:=qa .non
abbrev kU:Ex:=zG (gH SY) zX
noncomputable def yA (S:Scope):bU:=(S.names.filter λp=>p.2==.local || p.2==.cell).map (·.1)
noncomputable def Rf (N:bU)(x:Str)(c:bS):bU:=x::c.map λi=>N.getD i Str.empty
noncomputable def L9 (N:bU)(S:Scope)(i:Nat)(x:Str):Bool:=N[i]?==some x&&((S.names.lookup x==some .local || (S.names.lookup x==some .cell || S.names.lookup x==some .free))&&(!(x==("__debug__":Str))&&!(x==("__classdict__":Str))))
noncomputable def Ii (N:bU)(S:Scope)(fn:Str->Bool)(i:Nat)(x:Str):Bool:=N[i]?==some x&&((S.names.lookup x==some .local || S.names.lookup x==some .cell)&&(fn x || S.names.lookup x==some .local))
def zc (i:Nat)(h:L9 X.N X.env.scope i x=true:=by kernel_rfl):zx X xr (.Name x o7) (zM i):=by unfold L9 at h;simp only[ak,a3,aK,not_eq_true']at h;exact gv i h.1 h.2.1 h.2.2.1 h.2.2.2
def qb {m:Ev}(i:Nat)(a:X.N.Nodup)(b:zx X xr e m)(h:Ii X.N X.env.scope X.fn i x=true:=by kernel_rfl)(H:swapsWith e (some (.Name x oP)) o7.line X.env=pure false:=by rfl):yC X xr (.Assign [.Name x oP] e o7) (qu i m):=by unfold Ii at h;simp only[ak,a3,aK]at h;exact g0 i a b h.1 h.2.1 H h.2.2
section
def jC (C:bS)(w:ku X xr (.Name x p) o8 mi)(e:∀s H fp,zx (jz X (Rf X.N x C) sc s H fp j5) jO oN me)
  (d:X.calm=true:=by rfl)(S:gw X sc:=by exact cps (by kernel_rfl))(a:ZP X.N (Rf X.N x C) sc 1 C=true:=by kernel_rfl)(n:(Rf X.N x C).Nodup:=by exact kG (by kernel_rfl))(b:Loc (relabel sc X.env) x:=by first|exact Or.inl rfl|exact Or.inr rfl)(f:(sc.names.lookup x==some .local || sc.names.lookup x==some .cell)=true:=by rfl)
  (c:∀y,foldedSetIterable o8 X.env y=pure y:=by intro _;rfl):Zx X xr (.ListComp oN [⟨.Name x p,o8,[],0⟩] sc o7) (qy 1 C mi (zN 0) q9 (ql me)):=
 Yy 1 C w (λs H fp=>⟨qZ 0 n rfl b (.inl f),wA,wj (e s H fp)⟩) d S a (by intro _ h;cases h) c
end
def X8.toD {D:Heap}{K:Frag}{j:Nat}{q:Str}{t:Lm}(h:X8 P w K mg j q t):YE D P w K mg j q t:=⟨h.sc,h.bind,λb cl a c A o s H E _=>h.body b cl a c A o s H E⟩
end Mi
namespace G
open PySem L2 Mi
noncomputable def top (i:Nat):Stmt:=PySem.Challenge.pw_nearkinds_k41_turned_numbers.main.body.getD i (.Pass ⟨0,0,0,0⟩)
structure Bu (mg:bX):Prop where
 Ft:mg "ValueError"=none
 MD:mg "abs"=none
 YD:mg "all"=none
 zdD:mg "any"=none
 Xn:mg "bool"=none
 Jc:mg "enumerate"=none
 We:mg "int"=none
 jx:mg "isinstance"=none
 qJ:mg "len"=none
 KQ:mg "list"=none
 Jx:mg "max"=none
 MU:mg "min"=none
 qW:mg "range"=none
 zeS:mg "set"=none
 BF:mg "sorted"=none
 TV:mg "sum"=none
 jJ:mg "tuple"=none
 Wa:mg "zip"=none
 H9:∃t,mg "MOST_PLACES"=some (.int 8 t)
noncomputable abbrev jL:bU:=["NoTable","NotSteady","NotWhole","NoNumber"]
noncomputable abbrev GL:bU:=["NoTable","NotSteady","NoPlace","NoKind","NoMix","NoNumber","NoLot","NoKinds","NoPaper","NoParting","NoClosed","TooMany","NoText","NoLine","NoDeed","NoWeights","NotWhole","NoNumbers"]
def jm {K:Frag}(R:GL.all (QP K jL)=true)(h:GL.contains x=true:=by decide +kernel):QP K jL x=true:=cu.mp R x (List.contains_iff_mem.mp h)
def Gv {l:List (Str×NameKind)}(h:(l.all λy=>!(y.2==.cell))=true):∀y∈l,y.2≠.cell:=λy H e=>by have q:=cu.mp h y H;rw[e]at q;cases q
def yE {m:Ev}(h:zx X xr e m):SE X xr e m:=by rw[Xm]at h;exact h
abbrev Ub:Stmt:=top 74
def FA:kO ["_law_found","_law_due"] ["_law_found","_law_due"] (qf Ub):=JP (by kernel_rfl)
def Z1 (Z:Fn):Ex:=zG (jQ (X6 .tup .lst zF) (zG (jQ (ZA (zj ju (w9 .tup zH) (w9 .tup zF)) (zj ju (w9 .lst zH) (w9 .lst zF))) kU zX) (zG (jQ (zj ju (mQ qe (zZ zH)) (mQ qe (zZ zF))) kU zX) (zG (gH (mQ Ws (qy 2 [] (gC zH zF) (jD 0 1) q9 (ql (zU Z (zi zH (zi zF zu))))))) zX))) zX) (zG (gH (kR (zj yd zH zF) (zj yd (w9 .bl zH) (w9 .bl zF)))) zX)
def Gb {K:Frag}{k:Nat}(T:Bu mg)(F:kL K "_law_same" "_law_same" Ub f fd)(a:mg "_law_same"=some (.ref f)){Z:Fn}(QE:qG P w K mg base k "_law_same" 2 Z):qG P w K mg base (k+1) "_law_same" 2 (qm 2 (Z1 Z)):=
 Sy F a FA (λ_ _ _ _ _ _=>Y3 λ_ _=>rfl) λc A o s H E h=>zp (jW (kN (B5 .tup .lst T.jx T.jJ T.KQ (by rfl) (by rfl) (zc 1))) (zp (jW (QI (K3 (yt (kF h) (gz .tup T.jx T.jJ (by rfl) (zc 0)) (gz .tup T.jx T.jJ (by rfl) (zc 1))) (KL (yt (kF h) (gz .lst T.jx T.KQ (by rfl) (zc 0)) (gz .lst T.jx T.KQ (by rfl) (zc 1)))))) (zp (qk j0) zC) zC) (zp (jW (yt (kF h) (qK T.qJ (qt (zc 0))) (qK T.qJ (qt (zc 1)))) (zp (qk j0) zC) zC) (zp (qk (Yk rfl T.YD (yg (Yy (N:=["_law_one","_law_other"]) 2 [] (Kz rfl T.Wa (zc 0) (zc 1)) (λ_ _ _=>⟨kA 0 1 rfl (kG (by kernel_rfl)),wA,wj (zY QE h (zm (zc 0) (zm (zc 1) zt)))⟩))))) zC))) zC) (zp (qk (Zk (wV (wW h) (zc 0) (zc 1)) (ZL (wV (wW h) (gz .bl T.jx T.Xn (by rfl) (zc 0)) (gz .bl T.jx T.Xn (by rfl) (zc 1)))))) zC)
abbrev VM:Stmt:=top 75
def ZZ:kO ["_law_call","_law_error","e","_law_marks"] ["_law_call"] (qf VM):=JP (by kernel_rfl)
def VG:Ex:=zG (qu 3 (qL (zi (yb (yS jL "NoTable") zF) (zi (yb (yS jL "NotSteady") zF) (zi (yb (yS jL "NoPlace") zF) zu))))) (zG (qu 3 (zj qR qi (qL (zi (yb (yS jL "NoKind") zF) (zi (yb (yS jL "NoMix") zF) (zi (yb (yS jL "NoNumber") zF) zu)))))) (zG (qu 3 (zj qR qi (qL (zi (yb (yS jL "NoLot") zF) (zi (yb (yS jL "NoKinds") zF) (zi (yb (yS jL "NoPaper") zF) zu)))))) (zG (qu 3 (zj qR qi (qL (zi (yb (yS jL "NoParting") zF) (zi (yb (yS jL "NoClosed") zF) (zi (yb (yS jL "TooMany") zF) zu)))))) (zG (qu 3 (zj qR qi (qL (zi (yb (yS jL "NoText") zF) (zi (yb (yS jL "NoLine") zF) (zi (yb (yS jL "NoDeed") zF) zu)))))) (zG (qu 3 (zj qR qi (qL (zi (yb (yS jL "NoWeights") zF) (zi (yb (yS jL "NotWhole") zF) (zi (yb (yS jL "NoNumbers") zF) zu)))))) (zG (jQ (kj (yb (Rc jL) zF)) (zG (gH WD) zX) zX) (zG (gH (jN (qy 1 [3] (jM (qa (.int 18))) (zN 0) (zj zD zF zH) (ql zH)))) zX)))))))
def Ka (PG:gZ)(l:Nat->Fn):Ex:=zG (qu 1 WD) (zG (Wo 0 1 2 jL PG l) VG)
def Hg {K:Frag}{k:Nat}(T:Bu mg)(C:w8 K jL "NearError")(R:GL.all (QP K jL)=true)(F:kL K "_law_refused" "_law_refused" VM f fd)(a:mg "_law_refused"=some (.ref f)){PG:gZ}{l:Nat->Fn}(h:kk<=k)(L:∀k,QU P w K mg base kk (PG k) (l k)):qG P w K mg base (k+1) "_law_refused" 1 (qm 4 (Ka PG l)):=
 Sy F a ZZ (λ_ _ _ _ _ _=>Vb λ_=>rfl) λc A o s H E r=>zp (qb 1 ZZ.nd Yn) (zp (AX L (r.mono h) rfl rfl C.top_at C.top_exc (by decide +kernel) C.under ZZ.nd rfl rfl rfl rfl rfl rfl rfl) (zp (qb 3 ZZ.nd (qV (zm (kB (C.isx (jm R)) (kE (jm R)) T.jx (zc 1)) (zm (kB (C.isx (jm R)) (kE (jm R)) T.jx (zc 1)) (zm (kB (C.isx (jm R)) (kE (jm R)) T.jx (zc 1)) zt))) (zw (zw (zw zO))))) (zp (qb 3 ZZ.nd (jy (zc 3) (qV (zm (kB (C.isx (jm R)) (kE (jm R)) T.jx (zc 1)) (zm (kB (C.isx (jm R)) (kE (jm R)) T.jx (zc 1)) (zm (kB (C.isx (jm R)) (kE (jm R)) T.jx (zc 1)) zt))) (zw (zw (zw zO)))))) (zp (qb 3 ZZ.nd (jy (zc 3) (qV (zm (kB (C.isx (jm R)) (kE (jm R)) T.jx (zc 1)) (zm (kB (C.isx (jm R)) (kE (jm R)) T.jx (zc 1)) (zm (kB (C.isx (jm R)) (kE (jm R)) T.jx (zc 1)) zt))) (zw (zw (zw zO)))))) (zp (qb 3 ZZ.nd (jy (zc 3) (qV (zm (kB (C.isx (jm R)) (kE (jm R)) T.jx (zc 1)) (zm (kB (C.isx (jm R)) (kE (jm R)) T.jx (zc 1)) (zm (kB (C.isx (jm R)) (kE (jm R)) T.jx (zc 1)) zt))) (zw (zw (zw zO)))))) (zp (qb 3 ZZ.nd (jy (zc 3) (qV (zm (kB (C.isx (jm R)) (kE (jm R)) T.jx (zc 1)) (zm (kB (C.isx (jm R)) (kE (jm R)) T.jx (zc 1)) (zm (kB (C.isx (jm R)) (kE (jm R)) T.jx (zc 1)) zt))) (zw (zw (zw zO)))))) (zp (qb 3 ZZ.nd (jy (zc 3) (qV (zm (kB (C.isx (jm R)) (kE (jm R)) T.jx (zc 1)) (zm (kB (C.isx (jm R)) (kE (jm R)) T.jx (zc 1)) (zm (kB (C.isx (jm R)) (kE (jm R)) T.jx (zc 1)) zt))) (zw (zw (zw zO)))))) (zp (jW (gT (kN (CS C.isv T.jx T.Ft (by rfl) (zc 1)))) (zp (qk Yn) zC) zC) (zp (qk (wM (Yy (N:=["_law_k","_law_marks"]) 1 [3] (jg rfl T.qW zB) (λ_ _ _=>⟨qZ 0 (kG (by kernel_rfl)),UD (kN (zW (zc 1) (zc 0))),wj (zc 0)⟩)))) zC)))))))))
abbrev Y5:Stmt:=top 78
def Rt:kO ["_law_state_here","_law_calls","_law_bad","_law_broken_here"] ["_law_state_here","_law_calls"] (qf Y5):=JP (by kernel_rfl)
noncomputable abbrev yV:Str:=(("_law_no_table_right":Str)++(".<locals>.":Str))++("<lambda>":Str)
noncomputable abbrev kf:Str:=(("law":Str)++(".<locals>.":Str))++("<lambda>":Str)
def Kw (q:Fn)(P:Obj->Addr->Obj->List V->Prop)(gp:Fn):Lm:=Wj (YN (Lz (X4 (XJ ((jV Y5).getD 1 Z8)))) 0) ["_law_call","_law_bad"] [0,1] (QO 0 P gp (zi zF zu))
def Bl {K:Frag}{k:Nat}(T:Bu mg){q:Fn}(Q:∀base,ym P w K mg base k "turned_number" 4 q){D:Heap}{gp:Fn}(L:∀base,wZ D base->Qb P w K mg base k PK gp):YE D P w K mg k yV (Kw q PK gp):=
 ⟨⟨rfl,rfl,rfl,Gv (by kernel_rfl)⟩,λ_ _ _ _=>rfl,λbase cl a c A o s H E b h x=>yE (P6 x (L base b) h (zm (zc 1) zt) (zw zO))⟩
def KN (q:Fn)(P:Obj->Addr->Obj->List V->Prop)(gp:Fn):Lm:=Wj (YN (Lz (X4 (ig ((jV Y5).getD 2 Z8)))) 0) ["_law_call","_law_broken_here"] [0,1] (QO 0 P gp (zi zF zu))
def BI {K:Frag}{k:Nat}(T:Bu mg){q:Fn}(Q:∀base,ym P w K mg base k "turned_number" 4 q){D:Heap}{gp:Fn}(L:∀base,wZ D base->Qb P w K mg base k PK gp):YE D P w K mg k yV (KN q PK gp):=
 ⟨⟨rfl,rfl,rfl,Gv (by kernel_rfl)⟩,λ_ _ _ _=>rfl,λbase cl a c A o s H E b h x=>yE (P6 x (L base b) h (zm (zc 1) zt) (zw zO))⟩
def Vq (U:Fn)(w:Fn)(q:Fn)(p:Obj->Addr->Obj->List V->Prop)(gp:Fn)(RG:Lm->Nat->List W->Hx->R W)(P:Addr):Ex:=zG (Q0 (qB (zi (zU U (zi zH zu)) (zi (zU w (zi zH zu)) zu))) (jD 2 3)) (zG (jQ (zj ju (jN (qy 1 [2] (qF zF) (zN 0) q9 (ql (wg 2 yV P (Kw q p gp).idx (RG (Kw q p gp) 0))))) (zj qd (qL (zi (qL (zi qD zu)) zu)) (mQ qe (zZ zF)))) kU zX) (zG (gH (zj yd (jN (qy 1 [3] (qF zF) (zN 0) q9 (ql (wg 2 yV P (KN q p gp).idx (RG (KN q p gp) 0))))) (zj qd (qL (zi (qL (zi jv zu)) zu)) (mQ qe (zZ zF))))) zX))
def Ik {K:Frag}{k:Nat}(T:Bu mg){c:Addr}(F:kL K "_law_no_table_right" "_law_no_table_right" Y5 f fd)(n:nsIn K mainGlobals "_law_no_table_right"=some (some (.ref f)))(e:tabIn K "_law_no_table_right"=some (c,Pt))(g:mg "_law_no_table_right"=some (.ref f))(B:BMain mg base)(C:CodeHd base c Pt){U:Fn}(Q8:qG P w K mg base k "_law_bad_table" 1 U){Z:Fn}(J5:qG P w K mg base k "_law_broken" 1 Z){RG:Lm->Nat->List W->Hx->R W}{j:Nat}(a:kk<=k){q:Fn}(XL_turned_number:∀base,ym P w K mg base j "turned_number" 4 q){gp:Fn}(L:∀b,wZ base b->Qb P w K mg b j PK gp)(d:∀t base PG,(∀k,QU P w K mg base (j+1) (PG k) (w6 [t] k))->qG P w K mg base kk "_law_refused" 1 (Qn PG (RG t))):qG P w K mg base (k+1) "_law_no_table_right" 2 (qm 4 (Vq U Z q PK gp RG Pt)):=
 iT F n e g Rt (λ_ _ _ _ _ _=>Y3 λ_ _=>rfl) λA o s H E r=>zp (Kt (qO (zm (zY Q8 r (zm (zc 0) zt)) (zm (zY J5 r (zm (zc 0) zt)) zt)) (zw (zw zO))) (kA 2 3 rfl Rt.nd)) (zp (jW (yt (kF r) (wM (P9 (N:=["_law_call","_law_bad"]) 1 [2] rfl (cps (by kernel_rfl)) (by kernel_rfl) (KU λ_=>rfl) (jE (zc 1)) (λ_ _ _ h=>⟨qZ 0 (kG (by kernel_rfl)),wA,wj (Gu (t:=Kw q PK gp) h (Bl T XL_turned_number L) (by kernel_rfl) (d _) (r.mono a) B rfl C rfl rfl)⟩))) (qQ (qV (zm (qV (zm zB zt) (zw zO)) zt) (zw zO)) (qK T.qJ (qt (zc 1))))) (zp (qk j0) zC) zC) (zp (qk (wV (wW r) (wM (P9 (N:=["_law_call","_law_broken_here"]) 1 [3] rfl (cps (by kernel_rfl)) (by kernel_rfl) (KU λ_=>rfl) (jE (zc 1)) (λ_ _ _ h=>⟨qZ 0 (kG (by kernel_rfl)),wA,wj (Gu (t:=KN q PK gp) h (BI T XL_turned_number L) (by kernel_rfl) (d _) (r.mono a) B rfl C rfl rfl)⟩))) (qQ (qV (zm (qV (zm zB zt) (zw zO)) zt) (zw zO)) (qK T.qJ (qt (zc 1)))))) zC))
abbrev Ju:Stmt:=top 79
def ka:kO ["_law_script","_law_k","_law_state_here","_law_table","_law_rows","_law_near_by","_law_turn","_law_one","_law_other","_law_third","_law_top","_law_bottom","_law_kind","_law_by","_law_amount","_law_often_here","_law_due","_law_bad","_law_some","_law_part"] ["_law_script"] (qf Ju):=JP (by kernel_rfl)
abbrev iU:Expr:=(YN (YN (iu (XJ (XY ((jV Ju).getD 0 Z8) 8))) 1) 0)
def QS (q:Fn):Lm:=Wj iU ["_law_bad"] [17] (zU q (zi zH (zi zF (zi qD (zi qD zu)))))
def iW {K:Frag}{k:Nat}(T:Bu mg){q:Fn}(Q:∀base,ym P w K mg base k "turned_number" 4 q):Sb P w K mg k kf "_law_table" (QS q):=
 ⟨Bm (by kernel_rfl),λ_ _ _ _ _=>rfl,λbase cl a c A o s H E h x=>yE (Jg x (Q base) h (zm (zc 0) (zm (zc 1) (zm zB (zm zB zt)))))⟩
def KC (q:Fn):Lm:=Wj (YN (X4 (XJ (XY (XY ((jV Ju).getD 0 Z8) 5) 0))) 0) ["_law_table","_law_some"] [3,18] (zU q (zi zH (zi (zj zD zF qD) (zi (zj zD zF jv) (zi (zj zD zF Q2) zu)))))
def BX {K:Frag}{k:Nat}(T:Bu mg){q:Fn}(Q:∀base,ym P w K mg base k "turned_number" 4 q):X8 P w K mg k kf (KC q):=
 ⟨⟨rfl,rfl,rfl,Gv (by kernel_rfl)⟩,λ_ _ _ _=>rfl,λbase cl a c A o s H E h x=>yE (Jg x (Q base) h (zm (zc 0) (zm (zW (zc 1) zB) (zm (zW (zc 1) zB) (zm (zW (zc 1) zB) zt)))))⟩
def KI (q:Fn):Lm:=Wj (YN (X4 (XJ (XY ((jV Ju).getD 0 Z8) 7))) 0) ["_law_bad","_law_part"] [17,19] (zU q (zi zF (zi zH (zi zH (zi zH zu)))))
def CY {K:Frag}{k:Nat}(T:Bu mg){q:Fn}(Q:∀base,ym P w K mg base k "turned_number" 4 q):X8 P w K mg k kf (KI q):=
 ⟨⟨rfl,rfl,rfl,Gv (by kernel_rfl)⟩,λ_ _ _ _=>rfl,λbase cl a c A o s H E h x=>yE (Jg x (Q base) h (zm (zc 1) (zm (zc 0) (zm (zc 0) (zm (zc 0) zt)))))⟩
def T7 (c:Fn)(w:Fn)(K:Fn)(g:Fn)(Z:Fn)(e:Fn)(d:Fn)(J:Fn)(N:Fn)(b:Fn)(a:Fn)(q:Fn)(NT:W->List W->Hx->R W)(RG:Lm->Nat->List W->Hx->R W)(P:Addr):Ex:=zG (jA (jM (zj Sr jv (zj T5 (mQ qe (zZ zH)) JT))) (zN 1) (zG (qu 2 (zU d (zi zH (zi zF zu)))) (zG (qu 3 (zU b (zi qc zu))) (zG (Q0 (qB (zi (zU c (zi qi zu)) (zi (zU e (zi qi zu)) zu))) (jD 4 5)) (zG (jA (jM Va) (zN 6) (zG (Wi 7 8 9 (jN (qy 1 [2,4] (jM YU) (zN 0) q9 (ql (zU J (zi zF (zi (mQ qe (zZ qc)) zu))))))) (zG (Q0 (qB (zi qD (zi jv zu))) (jD 10 11)) (zG (jA (jM (mQ qe (zZ jw))) (zN 12) (zG (qu 13 (zj qd (zj zD jw Qp) (zj zD jw Qp))) (zG (qu 14 (zj qd (zj zD (zj zD qv yR) Qp) (zj zD (zj zD qv kK) Qp))) (zG (qu 14 (zj qd XZ (zj zD (zj zD qv WH) Qp))) (zG (qu 10 (zj qR (zj qd JB X7) (zj qd XZ JJ))) (zG (qu 11 (zj qd JJ X7)) zX)))))) (zG (qu 15 (zj qd (zU K (zi qi (zi (zj zD qv yR) zu))) (zU K (zi qi (zi (zj zD qv kK) zu))))) (zG (qu 16 (zU w (zi (zj qd Ly JB) (zi (zj qd (mQ qe (zZ qi)) JJ) zu)))) (zG (jQ (kj (zU Z (zi (zU a (zi qi (zi yR (zi kK (zi WH zu))))) (zi (zM 16) zu)))) kU zX) zX))))))) (zG (qu 17 (zj zD (qL (zi (mQ qe (zZ qv)) (zi (yU Qr jv) (zi q9 (zi WD (zi (qa (.str "0")) (zi (qB (zi qD zu)) (zi (zj YI SV (qa (.int 29))) (zi SY zu))))))))) (zU J (zi qc (zi JW zu))))) (zG (jA (qF (qL (zi (qB (zi (zM 17) (zi yR (zi kK zu)))) (zi (qB (zi yR (zi (zM 17) (zi kK zu)))) (zi (qB (zi yR (zi kK (zi (zM 17) zu)))) (zi (qB (zi (zM 17) (zi (zM 17) (zi (zM 17) zu)))) zu)))))) (zN 18) (zG (jQ (zj ju (wg 1 kf P (KC q).idx (RG (KC q) 0)) (qL (zi JT zu))) kU zX) zX)) (zG (qu 19 (zU N (zi qc (zi (zU g (zi (zj zD (qL (zi JT (zi Vl (zi JW zu)))) (zU J (zi qc (zi YU zu)))) zu)) zu)))) (zG (jQ (zj ju (wg 1 kf P (KI q).idx (RG (KI q) 0)) (qL (zi (qa (.int 16)) zu))) kU zX) (zG (jQ (kj (Yt 1 kf P (QS q).idx qc NT)) kU zX) zX)))))))))) (zG (gH q9) zX)
def o_law {K:Frag}{k:Nat}(T:Bu mg){c:Addr}(F:kL K "law" "law" Ju f fd)(D:nsIn K mainGlobals "law"=some (some (.ref f)))(z:tabIn K "law"=some (c,Pt))(d:BMain mg base)(C:CodeHd base c Pt){l:Fn}(Q7:qG P w K mg base k "_law_all_weights" 1 l){X:Fn}(J3:qG P w K mg base k "_law_divided" 2 X){r:Fn}(QC:qG P w K mg base k "_law_often" 2 r){u:Fn}(ZG:qG P w K mg base k "_law_ring" 1 u){Z:Fn}(QE:qG P w K mg base k "_law_same" 2 Z){p:Fn}(QD:qG P w K mg base k "_law_sizes" 1 p){o:Fn}(J8:qG P w K mg base k "_law_state" 2 o){J:Fn}(yx:qG P w K mg base k "_law_take" 2 J){N:Fn}(ZY:qG P w K mg base k "_law_turned_about" 2 N){i:Fn}(J0:qG P w K mg base k "_law_whole_one" 1 i){g:Fn}(J1:qG P w K mg base k "turned_number" 4 g){RG:Lm->Nat->List W->Hx->R W}{j:Nat}(a:kk<=k){q:Fn}(XL_turned_number:∀base,ym P w K mg base j "turned_number" 4 q){kn:Nat}{NT:W->List W->Hx->R W}(n:kn<=k)(v:∀b,wZ base b->∀PK,(∀B,wZ b B->Qb P w K mg B (j+1) PK λws A=>(QS q).m (ws.map some) A)->qG P w K mg b kn "_law_no_table_right" 2 (fN PK))(x:∀PK w ws A,Hand fN NT PK w ws A)(e:∀t base PG,(∀k,QU P w K mg base (j+1) (PG k) (w6 [t] k))->qG P w K mg base kk "_law_refused" 1 (Qn PG (RG t))):yh P w K mg base kq (k+1) f fd ["_law_script"] (g9 K 1 (qm 20 (T7 l X r u Z p o J N i g q NT RG Pt))):=
 iS F D z ka λA y s H E h=>zp (je PassesOwn.never rfl (jg rfl T.qW (Bz rfl T.Jx zB (OF rfl T.MU (qK T.qJ (qt (zc 0))) zB))) (qZ 1 ka.nd) (zp (qb 2 ka.nd (zY J8 h (zm (zc 0) (zm (zc 1) zt)))) (zp (qb 3 ka.nd (zY J0 h (zm (zc 2) zt))) (zp (Kt (qO (zm (zY Q7 h (zm (zc 3) zt)) (zm (zY QD h (zm (zc 3) zt)) zt)) (zw (zw zO))) (kA 4 5 rfl ka.nd)) (zp (je PassesOwn.never rfl (jg rfl T.qW zB) (qZ 6 ka.nd) (zp (iR 7 8 9 rfl ka.nd (wM (jC [2,4] (jg rfl T.qW zB) (λ_ _ _=>zY yx h (zm (zc 1) (zm (qK T.qJ (qt (zc 2))) zt)))))) (zp (Kt (qO (zm zB (zm zB zt)) (zw (zw zO))) (kA 10 11 rfl ka.nd)) (zp (je PassesOwn.never rfl (jg rfl T.qW (qK T.qJ (qt (zc 5)))) (qZ 12 ka.nd) (zp (qb 13 ka.nd (qQ (zW (zc 5) (zc 12)) (zW (zc 5) (zc 12)))) (zp (qb 14 ka.nd (qQ (zW (zW (zc 4) (zc 7)) (zc 12)) (zW (zW (zc 4) (zc 8)) (zc 12)))) (zp (qb 14 ka.nd (qQ (zc 14) (zW (zW (zc 4) (zc 9)) (zc 12)))) (zp (qb 10 ka.nd (jy (qQ (zc 10) (zc 13)) (qQ (zc 14) (zc 11)))) (zp (qb 11 ka.nd (qQ (zc 11) (zc 13))) zC)))))) (zp (qb 15 ka.nd (qQ (zY QC h (zm (zc 3) (zm (zW (zc 4) (zc 7)) zt))) (zY QC h (zm (zc 3) (zm (zW (zc 4) (zc 8)) zt))))) (zp (qb 16 ka.nd (zY J3 h (zm (qQ (zc 15) (zc 10)) (zm (qQ (qK T.qJ (qt (zc 3))) (zc 11)) zt)))) (zp (jW (gT (kN (zY QE h (zm (zY J1 h (zm (zc 3) (zm (zc 7) (zm (zc 8) (zm (zc 9) zt))))) (zm (zc 16) zt))))) (zp (qk j0) zC) zC) zC))))))) (zp (qb 17 ka.nd (zW (qV (zm (qK T.qJ (qt (zc 4))) (zm (U1 zB) (zm j0 (zm Yn (zm Ym (zm (qO (zm zB zt) (zw zO)) (zm (KD zB zB) (zm j0 zt)))))))) (zw (zw (zw (zw (zw (zw (zw (zw zO))))))))) (zY yx h (zm (zc 2) (zm zB zt))))) (zp (je PassesOwn.never rfl (jE (qV (zm (qO (zm (zc 17) (zm (zc 7) (zm (zc 8) zt))) (zw (zw (zw zO)))) (zm (qO (zm (zc 7) (zm (zc 17) (zm (zc 8) zt))) (zw (zw (zw zO)))) (zm (qO (zm (zc 7) (zm (zc 8) (zm (zc 17) zt))) (zw (zw (zw zO)))) (zm (qO (zm (zc 17) (zm (zc 17) (zm (zc 17) zt))) (zw (zw (zw zO)))) zt)))) (zw (zw (zw (zw zO)))))) (qZ 18 ka.nd) (zp (jW (yt (kF h) (Gu (t:=KC q) (KU λ_=>rfl) (BX T XL_turned_number).toD (by kernel_rfl) (e _) (h.mono a) d rfl C rfl rfl) (qV (zm zB zt) (zw zO))) (zp (qk j0) zC) zC) zC)) (zp (qb 19 ka.nd (zY ZY h (zm (zc 2) (zm (zY ZG h (zm (zW (qV (zm zB (zm zB (zm zB zt))) (zw (zw (zw zO)))) (zY yx h (zm (zc 2) (zm zB zt)))) zt)) zt)))) (zp (jW (yt (kF h) (Gu (t:=KI q) (KU λ_=>rfl) (CY T XL_turned_number).toD (by kernel_rfl) (e _) (h.mono a) d rfl C rfl rfl) (qV (zm zB zt) (zw zO))) (zp (qk j0) zC) zC) (zp (jW (gT (kN (Dv (t:=QS q) (KU λ_=>rfl) (iW T XL_turned_number) (by kernel_rfl) (zc 2) v x (h.mono n) d rfl C rfl rfl))) (zp (qk j0) zC) zC) zC)))))))))) (zp (qk j0) zC)
def FU:Fn:=qm 2 (Z1 (λ_ _=>.bad))
def Pd:Fn :=  FU
def Fm:Fn:=qm 2 (Z1 Pd)
def Pe:Fn :=  Fm
def FT:Fn:=qm 2 (Z1 Pe)
def R8:Fn :=  FT
def Ep:Fn:=qm 2 (Z1 R8)
def QE:Fn :=  Ep
structure Tx (K:Frag):Prop where
 EO:FD K "is_whole" (top 1)
 DF:FD K "is_even" (top 28)
 Io:FD K "leaves_no_kind_out" (top 29)
 HZ:FD K "count_kinds" (top 31)
 HY:FD K "first_pairs" (top 33)
 zbv:FD K "fits" (top 40)
 Iz:FD K "greatest_divisor" (top 46)
 Hs:FD K "_law_cell_at" (top 50)
 Ek:FD K "_law_take" (top 52)
 Fs:FD K "_law_alike" (top 53)
 F9:FD K "_law_ring" (top 54)
 HJ:FD K "_law_blocks" (top 55)
 HM:FD K "_law_unlike" (top 56)
 Ha:FD K "_law_each_own" (top 57)
 FY:FD K "_law_pairs" (top 58)
 FF:FD K "_law_kinds" (top 59)
 F2:FD K "_law_named" (top 63)
 Fq:FD K "_law_whole" (top 69)
 Hl:FD K "_law_divided" (top 73)
 IK:FD K "is_whole_below" (top 2)
 Ef:FD K "is_wholes" (top 3)
 Hv:FD K "count_shares" (top 32)
 Fh:FD K "count_sizes" (top 38)
 BB:FD K "lowest" (top 47)
 FN:FD K "_law_state" (top 51)
 HC:FD K "_law_beside" (top 60)
 HG:FD K "_law_within" (top 61)
 Fj:FD K "_law_mixed" (top 62)
 HL:FD K "_law_shares" (top 66)
 Fz:FD K "_law_sizes" (top 68)
 IH:FD K "_law_bad_table" (top 76)
 HI:FD K "_law_broken" (top 77)
 IG:FD K "is_wholes_below" (top 4)
 Fg:FD K "kind_shares" (top 34)
 Hr:FD K "search_break" (top 35)
 HR:FD K "count_often" (top 44)
 Iq:FD K "_law_turned_about" (top 64)
 Hm:FD K "_law_numbers" (top 67)
 F3:FD K "_law_often" (top 72)
 EA:FD K "is_table" (top 27)
 IJ:FD K "search_weights" (top 41)
 IM:FD K "_law_whole_one" (top 65)
 Ir:FD K "_law_are_weights" (top 70)
 Gg:FD K "_law_same" Ub
 IY:FD K "require_table" (top 30)
 Iv:FD K "_law_all_weights" (top 71)
 IQ:FD K "require_steady" (top 36)
 IS:FD K "is_whole_table" (top 42)
 Hf:FD K "require_whole" (top 43)
 He:FD K "turned_number" (top 48)
 Hi:FD K "_law_refused" VM
 Il:FD K "_law_no_table_right" Y5
 zdA:FD K "law" Ju
 F0:nsIn K mainGlobals "ValueError"=some none
 zdS:nsIn K mainGlobals "abs"=some none
 zdc:nsIn K mainGlobals "all"=some none
 zdW:nsIn K mainGlobals "any"=some none
 zbW:nsIn K mainGlobals "bool"=some none
 Ed:nsIn K mainGlobals "enumerate"=some none
 zdY:nsIn K mainGlobals "int"=some none
 F4:nsIn K mainGlobals "isinstance"=some none
 zeB:nsIn K mainGlobals "len"=some none
 zcL:nsIn K mainGlobals "list"=some none
 zdq:nsIn K mainGlobals "max"=some none
 zeG:nsIn K mainGlobals "min"=some none
 Ay:nsIn K mainGlobals "range"=some none
 zdK:nsIn K mainGlobals "set"=some none
 Bs:nsIn K mainGlobals "sorted"=some none
 zdZ:nsIn K mainGlobals "sum"=some none
 AG:nsIn K mainGlobals "tuple"=some none
 zc9:nsIn K mainGlobals "zip"=some none
 Hy:CD K "MOST_PLACES" 8
 zeg:jL.all (Xf K "NearError" ·)=true
 zeC:TQ K "NearError"=true
 zdV:GL.all (QP K jL)=true
section
variable {K:Frag}
def bu (X:K.In h)(G:h.Ns mainGlobals mg)(T:Tx K):Bu mg:=⟨aT X G T.F0,aT X G T.zdS,aT X G T.zdc,aT X G T.zdW,aT X G T.zbW,aT X G T.Ed,aT X G T.zdY,aT X G T.F4,aT X G T.zeB,aT X G T.zcL,aT X G T.zdq,aT X G T.zeG,aT X G T.Ay,aT X G T.zdK,aT X G T.Bs,aT X G T.zdZ,aT X G T.AG,aT X G T.zc9,(let ⟨t,e⟩:=T.Hy;⟨t,mg_of X G e⟩)⟩
def cl (T:Tx K):w8 K jL "NearError":=ic T.zeg T.zeC
structure Zz (K:Frag)(h:Heap)(mg:bX):Prop where
 X:K.In h
 G:h.Ns mainGlobals mg
 T:Tx K
 B:Bu mg
 C:w8 K jL "NearError"
def zz (X:K.In h)(G:h.Ns mainGlobals mg)(T:Tx K):Zz K h mg:=⟨X,G,T,bu X G T,cl T⟩
abbrev Gt (l:Nat)(x:Str)(n:Nat)(F:Fn):Prop:=∀{P:Program}{w:World}{K:Frag}{mg:bX}{base h:Heap}(_:Zz K h mg),qG P w K mg base l x n F
abbrev Qm (l:Nat)(x:Str)(n N:Nat):=Σ' m:Ex,Gt l x n (qm N m)
def Gi {l:Nat}{F:Fn}(q:Gt l x n F):Gt l x n (iso F):=λZ=>(q Z).iso
def Gl {l:Nat}{F:Fn}(q:Gt l x n F):Gt l x n (kI F):=λZ=>(q Z).kI
abbrev Qx (l:Nat)(x:Str)(n N:Nat):=Σ' m:Ex,∀{P:Program}{w:World}{K:Frag}{mg:bX}{base h:Heap}(_:Zz K h mg),ym P w K mg base l x n (w5 N m)
def gN {t:Stmt}{k N:Nat}{m:Ex}(Z:Zz K h mg)(e:FD K x t)
  (B:∀{f:Addr}{C:Value}{A:Around}{j:bY}{s:Shared}{H:Hp}{E:XK}(_:(yA (qf t)).Nodup),jd k (A.deeper (PyProof.Rows.envOfC x (qf t) s.heap.objs.size f C))->yI (yO kq P w K mg base (yA (qf t)) x (qf t) f C A j s H E).nox jO (jV t) m)
  (S:kO (yA (qf t)) ((yA (qf t)).take n) (qf t):=by exact JP (by kernel_rfl))(l:((yA (qf t)).take n).length=n:=by kernel_rfl)(i:(yA (qf t)).length=N:=by kernel_rfl)
  (g:∀(kV D p:Value)(q:b8)(C ct:Value)(u:bP),u.length=n->bindArgs (fnOf x x (gU t) (jV t) (qf t) .none kV D p q C ct) ⟨u,[]⟩=pure (((yA (qf t)).take n).zip u):=by first|exactλ_ _ _ _ _ _=>Vb λ_=>rfl|exactλ_ _ _ _ _ _=>Y3 λ_ _=>rfl|exactλ_ _ _ _ _ _=>Rh λ_ _ _=>rfl|exactλ_ _ _ _ _ _=>Rn λ_ _ _ _=>rfl|exactλ_ _ _ _ _ _=>bd5 λ_ _ _ _ _=>rfl):
  qG P w K mg base (k+1) x n (qm N m):=by
 obtain⟨f,v,F,a⟩:=e
 have:=Sy F (mg_of Z.X Z.G a) S (λa b c d e f u h=>g a b c d e f u (h.trans l)) λc A o s H E r=>B S.nd r
 rw[l,i]at this;exact this
def mq {t:Stmt}{k N:Nat}{m:Ex}(d:∀{K:Frag}{h:Heap}{M:bX},Zz K h M->FD K x t)(B:∀{P:Program}{w:World}{K:Frag}{M:bX}{e h:Heap}{f:Addr}{c:Value}{A:Around}{o:bY}{s:Shared}{H:Hp}{E:XK}(_:Zz K h M)(_:(yA (qf t)).Nodup),jd k (A.deeper (PyProof.Rows.envOfC x (qf t) s.heap.objs.size f c))->yI (yO kq P w K M e (yA (qf t)) x (qf t) f c A o s H E).nox jO (jV t) m)
  (S:kO (yA (qf t)) ((yA (qf t)).take n) (qf t):=by exact JP (by kernel_rfl))(g:((yA (qf t)).take n).length=n:=by kernel_rfl)(a:(yA (qf t)).length=N:=by kernel_rfl)
  (b:∀(kV D p:Value)(i:b8)(c ct:Value)(u:bP),u.length=n->bindArgs (fnOf x x (gU t) (jV t) (qf t) .none kV D p i c ct) ⟨u,[]⟩=pure (((yA (qf t)).take n).zip u):=by first|exactλ_ _ _ _ _ _=>Vb λ_=>rfl|exactλ_ _ _ _ _ _=>Y3 λ_ _=>rfl|exactλ_ _ _ _ _ _=>Rh λ_ _ _=>rfl|exactλ_ _ _ _ _ _=>Rn λ_ _ _ _=>rfl|exactλ_ _ _ _ _ _=>bd5 λ_ _ _ _ _=>rfl):Qm (k+1) x n N:=⟨m,λZ=>gN Z (d Z) (λn r=>B Z n r) S g a b⟩
def gY {t:Stmt}{k N:Nat}{m:Ex}(Z:Zz K h mg)(e:FD K x t)
  (B:∀{f:Addr}{C:Value}{A:Around}{l:bY}{s:Shared}{H:Hp}{E:XK}(_:(yA (qf t)).Nodup),jd k (A.deeper (PyProof.Rows.envOfC x (qf t) s.heap.objs.size f C))->wm (yO (wu P w) P w K mg base (yA (qf t)) x (qf t) f C A l s H E) s.heap (yT K E)->yI (yO (wu P w) P w K mg base (yA (qf t)) x (qf t) f C A l s H E) (yT K E) (jV t) m)
  (S:kO (yA (qf t)) ((yA (qf t)).take n) (qf t):=by exact JP (by kernel_rfl))(p:((yA (qf t)).take n).length=n:=by kernel_rfl)(j:(yA (qf t)).length=N:=by kernel_rfl)
  (i:∀(kV D q:Value)(v:b8)(C ct:Value)(u:bP),u.length=n->bindArgs (fnOf x x (gU t) (jV t) (qf t) .none kV D q v C ct) ⟨u,[]⟩=pure (((yA (qf t)).take n).zip u):=by first|exactλ_ _ _ _ _ _=>Vb λ_=>rfl|exactλ_ _ _ _ _ _=>Y3 λ_ _=>rfl|exactλ_ _ _ _ _ _=>Rh λ_ _ _=>rfl|exactλ_ _ _ _ _ _=>Rn λ_ _ _ _=>rfl):
  ym P w K mg base (k+1) x n (w5 N m):=by
 obtain⟨f,y,F,a⟩:=e
 have:=iP F (mg_of Z.X Z.G a) S (λa b c d e f u h=>i a b c d e f u (h.trans p)) λc A o s H E r g=>B S.nd r g
 rw[p,j]at this;exact this
def Ud:Qm 1 "is_whole" 1 1:=mq (·.T.EO) λZ n h=>zp (qk (Zk (gz .int Z.B.jx Z.B.We (by rfl) (zc 0)) (ZL (O9 (gz .bl Z.B.jx Z.B.Xn (by rfl) (zc 0)))))) zC
def Ue:Fn:=qm 1 Ud.1
def Yb:Fn :=  Ue
def Pw:Gt 1 "is_whole" 1 Yb:=Ud.2
def Uo:Qm 1 "is_even" 1 5:=mq (·.T.DF) λZ n h=>zp (je PassesOwn.never rfl (Jk rfl Z.B.Jc (zc 0)) (kA 1 2 rfl n) (zp (je PassesOwn.never rfl (Jk rfl Z.B.Jc (zc 2)) (kA 3 4 rfl n) (zp (jW (QI (K3 (yt (kF h) (wV (wW h) (zc 4) zB) (wV (wW h) (zc 1) (zc 3))) (KL (yt (kF h) (zW (zW (zc 0) (zc 3)) (zc 1)) (zc 4))))) (zp (qk j0) zC) zC) zC)) zC)) (zp (qk j0) zC)
def Dm:Fn:=qm 5 Uo.1
def P8:Fn:=iso Dm
def DS:Gt 1 "is_even" 1 P8:=Gi Uo.2
def Vr:Qm 1 "leaves_no_kind_out" 1 2:=mq (·.T.Io) λZ n H=>zp (qb 1 n (wM (Yy (N:=["row","kind"]) 2 [] (jE (zc 0)) (λ_ _ _=>⟨qZ 0 (kG (by kernel_rfl)),wA,Nj (λ_ _ z=>z) rfl rfl (by intro _ h;cases h<;>rfl) (jE (zc 0)) (qZ 1 (kG (by kernel_rfl))) wA (wj (zc 1))⟩)))) (zp (qk (Yk rfl Z.B.YD (yg (jC [1] (jg rfl Z.B.qW (Yh rfl Z.B.Jx (qt (zc 1)))) (λ_ _ _=>f9 fC (zc 0) (zc 1)))))) zC)
def Ip:Fn:=qm 2 Vr.1
def Ru:Fn:=iso Ip
def Im:Gt 1 "leaves_no_kind_out" 1 Ru:=Gi Vr.2
def VU:Qm 1 "count_kinds" 1 1:=mq (·.T.HZ) λZ n h=>zp (qk (jy (Yh rfl Z.B.Jx (yg (jC [] (jE (zc 0)) (λ_ _ _=>Yh rfl Z.B.Jx (qt (zc 0)))))) zB)) zC
def HQ:Fn:=qm 1 VU.1
def W0:Fn:=iso HQ
def W5:Gt 1 "count_kinds" 1 W0:=Gi VU.2
def VW:Qm 1 "first_pairs" 1 6:=mq (·.T.HY) λZ n h=>zp (qb 1 n O0) (zp (je PassesOwn.never rfl (Jk rfl Z.B.Jc (zc 0)) (kA 2 3 rfl n) (zp (je PassesOwn.never rfl (Jk rfl Z.B.Jc (zc 3)) (kA 4 5 rfl n) (zp (yX (ED (zc 1) (zc 5) (qO (zm (zc 2) (zm (zc 4) zt)) (zw (zw zO))))) zC)) zC)) (zp (qk (zc 1)) zC))
def RU:Fn:=qm 6 VW.1
def W3:Fn:=iso RU
def RO:Gt 1 "first_pairs" 1 W3:=Gi VW.2
def Xa:Qm 1 "fits" 2 7:=mq (·.T.zbv) λZ n h=>zp (qb 2 n (qK Z.B.qJ (qt (zc 1)))) (zp (je PassesOwn.never rfl (jg rfl Z.B.qW (zc 2)) (qZ 3 n) (zp (je PassesOwn.never rfl (jg rfl Z.B.qW (zc 2)) (qZ 4 n) (zp (QG 5 (N:=["by_kind","i","j"]) 1 [3,4] n rfl (cps (by kernel_rfl)) (by kernel_rfl) (jE (OW (zc 0) (Nq (zc 2)) Mg)) (λ_ _ _=>⟨qZ 0 (kG (by kernel_rfl)),wA,wj (zW (zW (zc 0) (zc 1)) (zc 2))⟩)) (zp (QG 6 (N:=["by_kind","weight","i","j"]) 2 [3,4] n rfl (cps (by kernel_rfl)) (by kernel_rfl) (Kz rfl Z.B.Wa (zc 0) (zc 1)) (λ_ _ _=>⟨kA 0 1 rfl (kG (by kernel_rfl)),wA,wj (qQ (zW (zW (zc 0) (zc 2)) (zc 3)) (zc 1))⟩)) (zp (jW (QI (U4 (gT (kN (f7 rfl Z.B.zdD (qt (zc 5))))) (UA (yt (kF h) (qQ (zW (zc 1) (zc 3)) (zW (zc 1) (zc 4))) (UN rfl Z.B.TV (qt (zc 6))))))) (zp (qk j0) zC) zC) zC)))) zC)) (zp (qk j0) zC))
def Tq:Fn:=qm 7 Xa.1
def KW:Fn:=kI Tq
def iX:Gt 1 "fits" 2 KW:=Gl Xa.2
def Vu:Qm 1 "greatest_divisor" 2 2:=mq (·.T.Iz) λZ n h=>zp (Uq 1000 PassesOwn.never (Ck (zc 1)) (zp (KA 0 1 rfl n (zc 1) (wD (zc 0) (zc 1))) zC)) (zp (qk (zc 0)) zC)
def Iy:Fn:=qm 2 Vu.1
def Vw:Fn:=iso Iy
def Iu:Gt 1 "greatest_divisor" 2 Vw:=Gi Vu.2
def WY:Qm 1 "_law_cell_at" 2 2:=mq (·.T.Hs) λZ n h=>zp (jW (yt SU (zc 1) (qK Z.B.qJ (qt (zc 0)))) (zp (qk (zW (zc 0) (zc 1))) zC) zC) (zp (qk zB) zC)
def Hh:Fn:=qm 2 WY.1
def VP:Fn :=  Hh
def Hn:Gt 1 "_law_cell_at" 2 VP:=WY.2
def Gf:Qm 1 "_law_take" 2 4:=mq (·.T.Ek) λZ n h=>zp (jW (kN (zW (zc 0) zB)) (zp (qb 2 n (wD (zW (zc 0) zB) (zc 1))) (zp (GN (wB (zW (zc 0) zB) (zc 1)) (zc 0) zB) (zp (qk (zc 2)) zC))) zC) (zp (GN (wD (jy (qQ (zW (zc 0) zB) zB) zB) zB) (zc 0) zB) (zp (qb 3 n (wD (jy (jy (qQ (zW (zc 0) zB) (zW (zc 0) zB)) (qQ zB (zW (zc 0) zB))) zB) zB)) (zp (qb 3 n (wD (jy (qQ (zc 3) (zc 3)) (qQ zB (zc 3))) zB)) (zp (qk (wD (wB (zc 3) zB) (zc 1))) zC))))
def QF:Fn:=qm 4 Gf.1
def yx:Fn:=kI QF
def Ja:Gt 1 "_law_take" 2 yx:=Gl Gf.2
def R6:Qm 1 "_law_alike" 1 1:=mq (·.T.Fs) λZ n h=>zp (qk (yf Z.B.jJ (yg (jC [0] (jg rfl Z.B.qW (zc 0)) (λ_ _ _=>yf Z.B.jJ (yg (jC [0] (jg rfl Z.B.qW (zc 1)) (λ_ _ _=>Up Z.B.We (wV (kF h) (zc 1) (zc 0)))))))))) zC
def R0:Fn:=qm 1 R6.1
def Ke:Fn:=iso R0
def Kd:Gt 1 "_law_alike" 1 Ke:=Gi R6.2
def Ph:Qm 1 "_law_ring" 1 1:=mq (·.T.F9) λZ n h=>zp (qk (yf Z.B.jJ (yg (jC [0] (jg rfl Z.B.qW (zc 0)) (λ_ _ _=>yf Z.B.jJ (yg (jC [0,1] (jg rfl Z.B.qW (zc 1)) (λ_ _ _=>OF rfl Z.B.MU (wD (Z5 (zc 1) (zc 0)) (zc 2)) (wD (Z5 (zc 0) (zc 1)) (zc 2)))))))))) zC
def Eb:Fn:=qm 1 Ph.1
def ZG:Fn:=iso Eb
def Ge:Gt 1 "_law_ring" 1 ZG:=Gi Ph.2
def RW:Qm 1 "_law_blocks" 2 6:=mq (·.T.HJ) λZ n h=>zp (qb 2 n (qV zt zO)) (zp (je PassesOwn.never rfl (jg rfl Z.B.qW (qQ (zc 0) (zc 1))) (qZ 3 n) (zp (qb 4 n (qV zt zO)) (zp (je PassesOwn.never rfl (jg rfl Z.B.qW (qQ (zc 0) (zc 1))) (qZ 5 n) (zp (yX (gn (zc 4) (jy (Up Z.B.We (wV (kF h) (zc 3) (zc 5))) (Up Z.B.We (Zk (wV (kF h) (wB (zc 3) (zc 1)) (wB (zc 5) (zc 1))) (ZL (wV LA (zc 1) zB))))))) zC)) (zp (yX (gn (zc 2) (yf Z.B.jJ (qt (zc 4))))) zC)))) (zp (qk (yf Z.B.jJ (qt (zc 2)))) zC))
def Fb:Fn:=qm 6 RW.1
def RX:Fn:=iso Fb
def HF:Gt 1 "_law_blocks" 2 RX:=Gi RW.2
def RQ:Qm 1 "_law_unlike" 1 3:=mq (·.T.HM) λZ n h=>zp (qb 1 n (qV zt zO)) (zp (je PassesOwn.never rfl (jg rfl Z.B.qW (GY zB (zc 0))) (qZ 2 n) (zp (yX (gn (zc 1) (yf Z.B.jJ (yg (jC [0,2] (jg rfl Z.B.qW (GY zB (zc 0))) (λ_ _ _=>Pn (wM (jC [0,2] (jg rfl Z.B.qW (zc 1)) (λ_ _ _=>C7 (Ap (Ni (zc 2) (zc 1)) (zc 0)) zB))) zB)))))) zC)) (zp (qk (yf Z.B.jJ (qt (zc 1)))) zC))
def HS:Fn:=qm 3 RQ.1
def RT:Fn:=iso HS
def HD:Gt 1 "_law_unlike" 1 RT:=Gi RQ.2
def RJ:Qm 1 "_law_each_own" 1 1:=mq (·.T.Ha) λZ n h=>zp (qk (yf Z.B.jJ (yg (jC [0] (jg rfl Z.B.qW (GY zB (zc 0))) (λ_ _ _=>yf Z.B.jJ (yg (jC [0] (jg rfl Z.B.qW (GY zB (zc 1))) (λ_ _ _=>Ni (zc 1) (zc 0))))))))) zC
def I9:Fn:=qm 1 RJ.1
def RI:Fn:=iso I9
def Hd:Gt 1 "_law_each_own" 1 RI:=Gi RJ.2
def Pc:Qm 1 "_law_pairs" 1 5:=mq (·.T.FY) λZ n h=>zp (qb 1 n (qV zt zO)) (zp (je PassesOwn.never rfl (jg rfl Z.B.qW (zc 0)) (qZ 2 n) (zp (yX (Px (zc 1) (wM (jC [2] (GI rfl Z.B.qW (jy (zc 2) zB) (zc 0)) (λ_ _ _=>qO (zm (zc 1) (zm (zc 0) zt)) (zw (zw zO))))))) zC)) (zp (qb 3 n (qV zt zO)) (zp (je PassesOwn.never rfl (jE (zc 1)) (qZ 4 n) (zp (yX (gn (zc 3) (yf Z.B.jJ (yg (jC [4] (jE (zc 1)) (λ_ _ _=>Z5 zB (EX rfl Z.B.qJ Z.B.zeS (jy (zc 1) (zc 0))))))))) zC)) (zp (qk (yf Z.B.jJ (yg (jC [] (jE (zc 3)) (λ_ _ _=>yf Z.B.jJ (yg (jC [] (jE (zc 0)) (λ_ _ _=>zW (qV (zm zB (zm zB (zm zB zt))) (zw (zw (zw zO)))) (zc 0))))))))) zC))))
def FX:Fn:=qm 5 Pc.1
def R5:Fn:=iso FX
def Fx:Gt 1 "_law_pairs" 1 R5:=Gi Pc.2
def R3:Qm 1 "_law_kinds" 1 1:=mq (·.T.FF) λZ n h=>zp (qk (jy (Yh rfl Z.B.Jx (yg (jC [] (jE (zc 0)) (λ_ _ _=>Yh rfl Z.B.Jx (qt (zc 0)))))) zB)) zC
def FJ:Fn:=qm 1 R3.1
def R4:Fn:=iso FJ
def J6:Gt 1 "_law_kinds" 1 R4:=Gi R3.2
def V7:Qm 1 "_law_named" 3 3:=mq (·.T.F2) λZ n h=>zp (qk (yf Z.B.jJ (yg (jC [0,1,2] (jE (zc 1)) (λ_ _ _=>yf Z.B.jJ (yg (jC [0,1,3] (jE (zc 2)) (λ_ _ _=>zW (zc 3) (zW (zW (zc 2) (zc 1)) (zc 0)))))))))) zC
def R1:Fn:=qm 3 V7.1
def V3:Fn :=  R1
def FQ:Gt 1 "_law_named" 3 V3:=V7.2
def R7:Qm 1 "_law_whole" 1 1:=mq (·.T.Fq) λZ n h=>zp (qk (Zk (gz .int Z.B.jx Z.B.We (by rfl) (zc 0)) (ZL (O9 (gz .bl Z.B.jx Z.B.Xn (by rfl) (zc 0)))))) zC
def FZ:Fn:=qm 1 R7.1
def W9:Fn:=iso FZ
def F7:Gt 1 "_law_whole" 1 W9:=Gi R7.2
def VI:Qm 1 "_law_divided" 2 4:=mq (·.T.Hl) λZ n h=>zp (KA 2 3 rfl n (Nk Z.B.MD (zc 0)) (zc 1)) (zp (Uq 1000 PassesOwn.never (yt (kF h) (zc 3) zB) (zp (KA 2 3 rfl n (zc 3) (wD (zc 2) (zc 3))) zC)) (zp (qk (qO (zm (wB (zc 0) (zc 2)) (zm (wB (zc 1) (zc 2)) zt)) (zw (zw zO)))) zC))
def Hj:Fn:=qm 4 VI.1
def J3:Fn:=iso Hj
def Ht:Gt 1 "_law_divided" 2 J3:=Gi VI.2
def VB:Qm 2 "is_whole_below" 2 2:=mq (·.T.IK) λZ n h=>zp (qk (Zk (zY (Pw Z).up h (zm (zc 0) zt)) (ZL (NI XI SU zB (zc 0) (zc 1))))) zC
def RA:Fn:=qm 2 VB.1
def VA:Fn:=iso RA
def IW:Gt 2 "is_whole_below" 2 VA:=Gi VB.2
def Gd:Qm 2 "is_wholes" 2 2:=mq (·.T.Ef) λZ n h=>zp (qk (Zk (gz .tup Z.B.jx Z.B.jJ (by rfl) (zc 0)) (Zk (wV (wW h) (qK Z.B.qJ (qt (zc 0))) (zc 1)) (ZL (Yk rfl Z.B.YD (yg (jC [] (jE (zc 0)) (λ_ _ _=>zY (Pw Z).up h (zm (zc 0) zt))))))))) zC
def V9:Fn:=qm 2 Gd.1
def Kh:Fn :=  V9
def Et:Gt 2 "is_wholes" 2 Kh:=Gd.2
def VN:Qm 2 "count_shares" 3 7:=mq (·.T.Hv) λZ n h=>zp (qb 3 n (zY (W5 Z).up h (zm (zc 0) zt))) (zp (QG 4 (N:=["kind","many"]) 1 [3] n rfl (cps (by kernel_rfl)) (by kernel_rfl) (jg rfl Z.B.qW (zc 3)) (λ_ _ _=>⟨qZ 0 (kG (by kernel_rfl)),wA,wj (qQ (qV (zm zB zt) (zw zO)) (zc 1))⟩)) (zp (je PassesOwn.never rfl (Kz rfl Z.B.Wa (zW (zc 0) (zc 1)) (zW (zc 0) (zc 2))) (kA 5 6 rfl n) (zp (CI (zW (zc 4) (zc 5)) (zc 6) zB) zC)) (zp (qk (yf Z.B.jJ (yg (jC [] (jE (zc 4)) (λ_ _ _=>yf Z.B.jJ (qt (zc 0))))))) zC)))
def Ho:Fn:=qm 7 VN.1
def J2:Fn:=iso Ho
def VJ:Gt 2 "count_shares" 3 J2:=Gi VN.2
def VV:Qm 2 "count_sizes" 1 1:=mq (·.T.Fh) λZ n h=>zp (qk (wM (jC [0] (jg rfl Z.B.qW (zY (W5 Z).up h (zm (zc 0) zt))) (λ_ _ _=>Of (zW (zc 1) zB) (zc 0))))) zC
def HW:Fn:=qm 1 VV.1
def J4:Fn:=iso HW
def VS:Gt 2 "count_sizes" 1 J4:=Gi VV.2
def Uv:Qm 2 "lowest" 2 3:=mq (·.T.BB) λZ n h=>zp (qb 2 n (zY (Iu Z).up h (zm (Nk Z.B.MD (zc 0)) (zm (zc 1) zt)))) (zp (qk (qO (zm (wB (zc 0) (zc 2)) (zm (wB (zc 1) (zc 2)) zt)) (zw (zw zO)))) zC)
def CF:Fn:=qm 3 Uv.1
def Ou:Fn:=iso CF
def BE:Gt 2 "lowest" 2 Ou:=Gi Uv.2
def W6:Qm 2 "_law_state" 2 3:=mq (·.T.FN) λZ n h=>zp (qb 2 n (zY (Hn Z).up h (zm (zc 0) (zm (zc 1) zt)))) (zp (jW (yt fb (zc 2) (KD zB zB)) (zp (qk (qV (zm (Z5 (zc 2) (KD zB zB)) (zm j0 zt)) (zw (zw zO)))) zC) zC) (zp (qk (qV (zm (wD (zc 2) zB) (zm j0 zt)) (zw (zw zO)))) zC))
def Fu:Fn:=qm 3 W6.1
def J8:Fn :=  Fu
def FG:Gt 2 "_law_state" 2 J8:=W6.2
def RP:Qm 2 "_law_beside" 2 8:=mq (·.T.HC) λZ n h=>zp (KA 2 3 rfl n (zY (J6 Z).up h (zm (zc 1) zt)) (qV zt zO)) (zp (je PassesOwn.never rfl (jg rfl Z.B.qW (qQ (qK Z.B.qJ (qt (zc 0))) (qK Z.B.qJ (qt (zc 1))))) (qZ 4 n) (zp (qb 5 n (qV zt zO)) (zp (je PassesOwn.never rfl (jg rfl Z.B.qW (qQ (qK Z.B.qJ (qt (zc 0))) (qK Z.B.qJ (qt (zc 1))))) (qZ 6 n) (zp (qb 7 n (zW (zW (zc 0) (wB (zc 4) (qK Z.B.qJ (qt (zc 1))))) (wB (zc 6) (qK Z.B.qJ (qt (zc 1)))))) (zp (yX (gn (zc 5) (jy (qQ (zc 7) (zc 2)) (zW (zW (zc 1) (wD (zc 4) (qK Z.B.qJ (qt (zc 1))))) (wD (zc 6) (qK Z.B.qJ (qt (zc 1)))))))) zC))) (zp (yX (gn (zc 3) (yf Z.B.jJ (qt (zc 5))))) zC)))) (zp (qk (yf Z.B.jJ (qt (zc 3)))) zC))
def HP:Fn:=qm 8 RP.1
def RR:Fn:=iso HP
def Fc:Gt 2 "_law_beside" 2 RR:=Gi RP.2
def RY:Qm 2 "_law_within" 2 8:=mq (·.T.HG) λZ n h=>zp (KA 2 3 rfl n (Z5 (zY (J6 Z).up h (zm (zc 1) zt)) zB) (qV zt zO)) (zp (je PassesOwn.never rfl (jg rfl Z.B.qW (qQ (qK Z.B.qJ (qt (zc 0))) (qK Z.B.qJ (qt (zc 1))))) (qZ 4 n) (zp (qb 5 n (qV zt zO)) (zp (je PassesOwn.never rfl (jg rfl Z.B.qW (qQ (qK Z.B.qJ (qt (zc 0))) (qK Z.B.qJ (qt (zc 1))))) (qZ 6 n) (zp (qb 7 n (zW (zW (zc 0) (wB (zc 4) (qK Z.B.qJ (qt (zc 1))))) (wB (zc 6) (qK Z.B.qJ (qt (zc 1)))))) (zp (yX (gn (zc 5) (gg (yt LA (zc 7) zB) (jy (zc 7) (zc 2)) (zW (zW (zc 1) (wD (zc 4) (qK Z.B.qJ (qt (zc 1))))) (wD (zc 6) (qK Z.B.qJ (qt (zc 1)))))))) zC))) (zp (yX (gn (zc 3) (yf Z.B.jJ (qt (zc 5))))) zC)))) (zp (qk (yf Z.B.jJ (qt (zc 3)))) zC))
def Hz:Fn:=qm 8 RY.1
def RN:Fn:=iso Hz
def HA:Gt 2 "_law_within" 2 RN:=Gi RY.2
def V5:Qm 2 "_law_mixed" 2 4:=mq (·.T.Fj) λZ n h=>zp (qb 2 n (EK rfl Z.B.KQ Z.B.qW (zc 1))) (zp (qb 3 n (qV zt zO)) (zp (Uq 1000 PassesOwn.never (yt (kF h) (zc 2) (qV zt zO)) (zp (yX (gn (zc 3) (Cc (zc 2) (zY (Ja Z).up h (zm (zc 0) (zm (qK Z.B.qJ (qt (zc 2))) zt)))))) zC)) (zp (qk (yf Z.B.jJ (qt (zc 3)))) zC)))
def Pb:Fn:=qm 4 V5.1
def J7:Fn:=kI Pb
def Pa:Gt 2 "_law_mixed" 2 J7:=Gl V5.2
def VT:Qm 2 "_law_shares" 3 8:=mq (·.T.HL) λZ n h=>zp (qb 3 n (zY (J6 Z).up h (zm (zc 0) zt))) (zp (qb 4 n (qV zt zO)) (zp (je PassesOwn.never rfl (jg rfl Z.B.qW (zc 3)) (qZ 5 n) (zp (qb 6 n (qV zt zO)) (zp (je PassesOwn.never rfl (jg rfl Z.B.qW (zc 3)) (qZ 7 n) (zp (yX (gn (zc 6) (Pn (wM (jC [0,1,2,5,7] (jg rfl Z.B.qW (qK Z.B.qJ (qt (zc 0)))) (λ_ _ _=>Zk (wV (wW h) (zW (zW (zc 1) (zc 2)) (zc 0)) (zc 4)) (ZL (wV (wW h) (zW (zW (zc 1) (zc 3)) (zc 0)) (zc 5)))))) j0))) zC)) (zp (yX (gn (zc 4) (zc 6))) zC)))) (zp (qk (zc 4)) zC)))
def Fe:Fn:=qm 8 VT.1
def VZ:Fn :=  Fe
def HN:Gt 2 "_law_shares" 3 VZ:=VT.2
def R9:Qm 2 "_law_sizes" 1 1:=mq (·.T.Fz) λZ n h=>zp (qk (wM (jC [0] (jg rfl Z.B.qW (zY (J6 Z).up h (zm (zc 0) zt))) (λ_ _ _=>Of (zW (zc 1) zB) (zc 0))))) zC
def Fp:Fn:=qm 1 R9.1
def QD:Fn:=iso Fp
def V4:Gt 2 "_law_sizes" 1 QD:=Gi R9.2
def VF:Qm 2 "_law_bad_table" 1 2:=mq (·.T.IH) λZ n h=>zp (qb 1 n (qV (zm Yn (zm zB (zm (qO zt zO) (zm (qO (zm (qO (zm zB zt) (zw zO)) zt) (zw zO)) (zm (qO (zm (qO (zm zB (zm zB zt)) (zw (zw zO))) (zm (qO (zm zB (zm zB zt)) (zw (zw zO))) (zm (qO (zm zB (zm zB zt)) (zw (zw zO))) zt))) (zw (zw (zw zO)))) (zm (qO (zm (qO (zm zB (zm zB zt)) (zw (zw zO))) (zm (qO (zm zB (zm zB zt)) (zw (zw zO))) zt)) (zw (zw zO))) (zm (qO (zm (qO (zm zB (zm zB zt)) (zw (zw zO))) (zm (qO (zm zB (zm zB zt)) (zw (zw zO))) zt)) (zw (zw zO))) (zm (qV (zm (qO (zm zB (zm zB zt)) (zw (zw zO))) (zm (qO (zm zB (zm zB zt)) (zw (zw zO))) zt)) (zw (zw zO))) zt)))))))) (zw (zw (zw (zw (zw (zw (zw (zw zO)))))))))) (zp (qb 1 n (jy (zc 1) (qV (zm (qO (zm (qO (zm zB (zm zB zt)) (zw (zw zO))) (zm (qO (zm zB (zm zB zt)) (zw (zw zO))) zt)) (zw (zw zO))) (zm (qO (zm (qO (zm zB (zm j0 zt)) (zw (zw zO))) (zm (qO (zm j0 (zm zB zt)) (zw (zw zO))) zt)) (zw (zw zO))) (zm (qO (zm (qO (zm zB (zm zB zt)) (zw (zw zO))) (zm (qV (zm zB (zm zB zt)) (zw (zw zO))) zt)) (zw (zw zO))) (zm (qO (zm (qO (zm zB (zm zB zt)) (zw (zw zO))) zt) (zw zO)) (zm Ym (zm O0 (zm (OD (qO (zm (OD (qO (zm zB zt) (zw zO)) zB) zt) (zw zO)) zB) zt))))))) (zw (zw (zw (zw (zw (zw (zw zO)))))))))) (zp (qk (zW (zc 1) (zY (Ja Z).up h (zm (zc 0) (zm zB zt))))) zC))
def RD:Fn:=qm 2 VF.1
def Q8:Fn :=  RD
def IT:Gt 2 "_law_bad_table" 1 Q8:=VF.2
def V1:Qm 2 "_law_broken" 1 5:=mq (·.T.HI) λZ n h=>zp (qb 1 n (jy zB (zY (Ja Z).up h (zm (zc 0) (zm zB zt))))) (zp (QG 2 (N:=["_law_row"]) 1 [] n rfl (cps (by kernel_rfl)) (by kernel_rfl) (jE (zY (Kd Z).up h (zm (zc 1) zt))) (λ_ _ _=>⟨qZ 0 (kG (by kernel_rfl)),wA,wj (BQ Z.B.KQ (qt (zc 0)))⟩)) (zp (qb 3 n (zY (Ja Z).up h (zm (zc 0) (zm (zc 1) zt)))) (zp (qb 4 n (wD (jy (jy (zc 3) zB) (zY (Ja Z).up h (zm (zc 0) (zm (Z5 (zc 1) zB) zt)))) (zc 1))) (zp (GN zB (zW (zc 2) (zc 3)) (zc 4)) (zp (GN zB (zW (zc 2) (zc 4)) (zc 3)) (zp (qk (yf Z.B.jJ (yg (jC [] (jE (zc 2)) (λ_ _ _=>yf Z.B.jJ (qt (zc 0))))))) zC))))))
def W4:Fn:=qm 5 V1.1
def J5:Fn:=kI W4
def HX:Gt 2 "_law_broken" 1 J5:=Gl V1.2
def WQ:Qm 3 "is_wholes_below" 3 3:=mq (·.T.IG) λZ n h=>zp (qk (Zk (zY (Et Z).up h (zm (zc 0) (zm (zc 1) zt))) (ZL (Yk rfl Z.B.YD (yg (jC [2] (jE (zc 0)) (λ_ _ _=>NI XI SU zB (zc 0) (zc 1)))))))) zC
def Vx:Fn:=qm 3 WQ.1
def QB:Fn :=  Vx
def IC:Gt 3 "is_wholes_below" 3 QB:=WQ.2
def V0:Qm 3 "kind_shares" 1 3:=mq (·.T.Fg) λZ n h=>zp (qb 1 n (zY (RO Z).up h (zm (zc 0) zt))) (zp (QG 2 (N:=["kind","firsts"]) 1 [1] n rfl (cps (by kernel_rfl)) (by kernel_rfl) (jg rfl Z.B.qW (zY (W5 Z).up h (zm (zc 0) zt))) (λ_ _ _=>⟨qZ 0 (kG (by kernel_rfl)),wA,wj (D6 h (zc 1) (zc 0))⟩)) (zp (qk (wM (Yy (N:=["a","b","table"]) 2 [0] (jE (zc 2)) (λ_ _ _=>⟨kA 0 1 rfl (kG (by kernel_rfl)),wA,wj (zY (VJ Z).up h (zm (zc 2) (zm (zc 0) (zm (zc 1) zt))))⟩)))) zC))
def HV:Fn:=qm 3 V0.1
def V2:Fn:=iso HV
def HE:Gt 3 "kind_shares" 1 V2:=Gi V0.2
def VQ:Qm 3 "search_break" 1 9:=mq (·.T.Hr) λZ n h=>zp (je PassesOwn.never rfl (E6 (zY (RO Z).up h (zm (zc 0) zt))) (DB 1 2 3 rfl n) (zp (qb 4 n (zY (VJ Z).up h (zm (zc 0) (zm (zc 2) (zm (zc 3) zt))))) (zp (je PassesOwn.never rfl (Jk rfl Z.B.Jc (zc 0)) (kA 5 6 rfl n) (zp (je PassesOwn.never rfl (Jk rfl Z.B.Jc (zc 6)) (kA 7 8 rfl n) (zp (jW (QI (U4 (yt (wW h) (zc 8) (zc 1)) (UA (yt (kF h) (zY (VJ Z).up h (zm (zc 0) (zm (zc 5) (zm (zc 7) zt)))) (zc 4))))) (zp (qk (qO (zm (zc 2) (zm (zc 3) (zm (zc 5) (zm (zc 7) zt)))) (zw (zw (zw (zw zO)))))) zC) zC) zC)) zC)) zC))) (zp (qk Yn) zC)
def RL:Fn:=qm 9 VQ.1
def Kc:Fn:=iso RL
def Hw:Gt 3 "search_break" 1 Kc:=Gi VQ.2
def VY:Qm 3 "count_often" 2 6:=mq (·.T.HR) λZ n h=>zp (qb 2 n zB) (zp (qb 3 n zB) (zp (je PassesOwn.never rfl (Kz rfl Z.B.Wa (zY (VS Z).up h (zm (zc 0) zt)) (zc 1)) (kA 4 5 rfl n) (zp (qb 2 n (jy (qQ (zc 2) (zc 4)) (qQ (qQ (zc 5) (zc 5)) (zc 3)))) (zp (qb 3 n (qQ (zc 3) (zc 4))) zC))) (zp (qk (wB (qQ (qK Z.B.qJ (qt (zc 0))) (zc 3)) (zc 2))) zC)))
def HK:Fn:=qm 6 VY.1
def RZ:Fn:=iso HK
def RS:Gt 3 "count_often" 2 RZ:=Gi VY.2
def Vs:Qm 3 "_law_turned_about" 2 4:=mq (·.T.Iq) λZ n h=>zp (qb 2 n (zY (J6 Z).up h (zm (zc 1) zt))) (zp (qb 3 n (jy (qV (zm zB zt) (zw zO)) (wM (jC [] (jE (zY (Pa Z).up h (zm (zc 0) (zm (Z5 (zc 2) zB) zt)))) (λ_ _ _=>jy zB (zc 0)))))) (zp (qk (zY (FQ Z).up h (zm (zc 1) (zm (zY (Pa Z).up h (zm (zc 0) (zm (qK Z.B.qJ (qt (zc 1))) zt))) (zm (zc 3) zt))))) zC))
def Rv:Fn:=qm 4 Vs.1
def ZY:Fn:=kI Rv
def Rx:Gt 3 "_law_turned_about" 2 ZY:=Gl Vs.2
def VL:Qm 3 "_law_numbers" 1 5:=mq (·.T.Hm) λZ n h=>zp (qb 1 n (qV zt zO)) (zp (je PassesOwn.never rfl (jg rfl Z.B.qW (zY (J6 Z).up h (zm (zc 0) zt))) (qZ 2 n) (zp (je PassesOwn.never rfl (jg rfl Z.B.qW (qK Z.B.qJ (qt (zc 0)))) (qZ 3 n) (zp (je PassesOwn.never rfl (jg rfl Z.B.qW (qK Z.B.qJ (qt (zc 0)))) (qZ 4 n) (zp (jW (QI (U4 (yt (wW h) (qK Z.B.qJ (qt (zc 1))) (zc 2)) (UA (yt (wW h) (zW (zW (zc 0) (zc 3)) (zc 4)) (zc 2))))) (zp (yX (gn (zc 1) (zY (HN Z).up h (zm (zc 0) (zm (zc 3) (zm (zc 4) zt)))))) zC) zC) zC)) zC)) zC)) (zp (qk (zc 1)) zC))
def Hk:Fn:=qm 5 VL.1
def RM:Fn :=  Hk
def RK:Gt 3 "_law_numbers" 1 RM:=VL.2
def V6:Qm 3 "_law_often" 2 7:=mq (·.T.F3) λZ n h=>zp (qb 2 n (zY (V4 Z).up h (zm (zc 0) zt))) (zp (Kt (qO (zm zB (zm zB zt)) (zw (zw zO))) (kA 3 4 rfl n)) (zp (je PassesOwn.never rfl (Kz rfl Z.B.Wa (zc 2) (zc 1)) (kA 5 6 rfl n) (zp (qb 3 n (jy (qQ (zc 3) (zc 5)) (qQ (qQ (zc 6) (zc 6)) (zc 4)))) (zp (qb 4 n (qQ (zc 4) (zc 5))) zC))) (zp (qk (wB (qQ (qK Z.B.qJ (qt (zc 0))) (zc 4)) (zc 3))) zC)))
def Fy:Fn:=qm 7 V6.1
def QC:Fn:=iso Fy
def FW:Gt 3 "_law_often" 2 QC:=Gi V6.2
def Ki:Qm 4 "is_table" 1 2:=mq (·.T.EA) λZ n h=>zp (jW (QI (K3 (gT (kN (gz .tup Z.B.jx Z.B.jJ (by rfl) (zc 0)))) (KL (gT (hh XI XI zB (qK Z.B.qJ (qt (zc 0))) (CU rfl Z.B.H9.choose_spec)))))) (zp (qk j0) zC) zC) (zp (qb 1 n (qK Z.B.qJ (qt (zc 0)))) (zp (jW (gT (kN (Yk rfl Z.B.YD (yg (jC [1] (jE (zc 0)) (λ_ _ _=>zY (IC Z).up h (zm (zc 0) (zm (zc 1) (zm (zc 1) zt))))))))) (zp (qk j0) zC) zC) (zp (qk (Zk (zY (DS Z).up h (zm (zc 0) zt)) (ZL (zY (Im Z).up h (zm (zc 0) zt))))) zC)))
def Gm:Fn:=qm 2 Ki.1
def gq:Fn :=  Gm
def EY:Gt 4 "is_table" 1 gq:=Ki.2
def VD:Qm 4 "search_weights" 1 5:=mq (·.T.IJ) λZ n H=>zp (qb 1 n (zY (HE Z).up H (zm (zc 0) zt))) (zp (qb 2 n (qV (zm (qO (zm zB zt) (zw zO)) zt) (zw zO))) (zp (je PassesOwn.never rfl (jE (OW (zY (VS Z).up H (zm (zc 0) zt)) (Nq zB) Mg)) (qZ 3 n) (zp (QG 4 (N:=["start","weight","size"]) 2 [3] n rfl (cps (by kernel_rfl)) (by kernel_rfl) (jE (zc 2)) (λ_ _ _=>⟨qZ 0 (kG (by kernel_rfl)),wA,Nj (λ_ _ z=>z) rfl rfl (by intro _ h;cases h<;>rfl) (CC rfl Z.B.qW (zc 2) (Z5 (U1 (zc 2)) zB)) (qZ 1 (kG (by kernel_rfl))) wA (wj (jy (zc 0) (qO (zm (zc 1) zt) (zw zO))))⟩)) (zp (QG 2 (N:=["start","shares"]) 1 [1] n rfl (cps (by kernel_rfl)) (by kernel_rfl) (jE (zc 4)) (λ_ _ _=>⟨qZ 0 (kG (by kernel_rfl)),UD (kN (zY (iX Z).up H (zm (zc 1) (zm (zc 0) zt)))),wj (zc 0)⟩)) zC))) (zp (qk (zc 2)) zC)))
def IP:Fn:=qm 5 VD.1
def WS:Fn:=iso IP
def RC:Gt 4 "search_weights" 1 WS:=Gi VD.2
def VC:Qm 4 "_law_whole_one" 1 3:=mq (·.T.IM) λZ n h=>zp (qb 1 n (zY (Ja Z).up h (zm (zc 0) (zm zB zt)))) (zp (qb 2 n (qV (zm (zY (Kd Z).up h (zm zB zt)) (zm (zY (Ge Z).up h (zm zB zt)) (zm (zY (Ge Z).up h (zm zB zt)) (zm (zY (HF Z).up h (zm zB (zm zB zt))) (zm (zY (HD Z).up h (zm zB zt)) (zm (zY (Hd Z).up h (zm zB zt)) zt)))))) (zw (zw (zw (zw (zw (zw zO)))))))) (zp (qb 2 n (jy (zc 2) (qV (zm (zY (Fx Z).up h (zm zB zt)) (zm (zY (Fc Z).up h (zm (zY (Kd Z).up h (zm zB zt)) (zm (zY (Kd Z).up h (zm zB zt)) zt)) (zw (zw zO))) (zm (zY (HA Z).up h (zm (zY (Kd Z).up h (zm zB zt)) (zm (zY (Ge Z).up h (zm zB zt)) zt)) (zw (zw zO))) zt))) (zw (zw (zw zO)))))) (zp (qk (zY (Rx Z).up h (zm (zc 0) (zm (zW (zc 2) (zc 1)) zt)))) zC)))
def II:Fn:=qm 3 VC.1
def J0:Fn:=kI II
def IL:Gt 4 "_law_whole_one" 1 J0:=Gl VC.2
def Vt:Qm 4 "_law_are_weights" 2 6:=mq (·.T.Ir) λZ n h=>zp (qb 2 n (zY (RK Z).up h (zm (zc 0) zt))) (zp (jW (QI (K3 (gT (kN (gz .tup Z.B.jx Z.B.jJ (by rfl) (zc 1)))) (KL (yt (kF h) (qK Z.B.qJ (qt (zc 1))) (qK Z.B.qJ (qt (zc 2))))))) (zp (qk j0) zC) zC) (zp (jW (QI (K3 (gT (kN (Yk rfl Z.B.YD (yg (jC [] (jE (zc 1)) (λ_ _ _=>zY (F7 Z).up h (zm (zc 0) zt))))))) (KL (yt (kF h) (zW (zc 1) zB) zB)))) (zp (qk j0) zC) zC) (zp (je PassesOwn.never rfl (jg rfl Z.B.qW (qK Z.B.qJ (qt (zc 1)))) (qZ 3 n) (zp (je PassesOwn.never rfl (jg rfl Z.B.qW (qK Z.B.qJ (qt (zc 1)))) (qZ 4 n) (zp (qb 5 n (UN rfl Z.B.TV (yg (jC [1,2,3,4] (jg rfl Z.B.qW (qK Z.B.qJ (qt (zc 1)))) (λ_ _ _=>qQ (zW (zW (zW (zc 2) (zc 0)) (zc 3)) (zc 4)) (zW (zc 1) (zc 0))))))) (zp (jW (yt (kF h) (qQ (zW (zc 1) (zc 3)) (zW (zc 1) (zc 4))) (zc 5)) (zp (qk j0) zC) zC) zC))) zC)) (zp (qk j0) zC))))
def Rz:Fn:=qm 6 Vt.1
def JX:Fn :=  Rz
def IA:Gt 4 "_law_are_weights" 2 JX:=Vt.2
def FC (Z:Zz K h mg):qG P w K mg base 1 "_law_same" 2 Pd:=by obtain⟨f,d,F,a⟩:=Z.T.Gg;exact(Gb (k:=0) Z.B F (mg_of Z.X Z.G a) (il (ps:=["_law_found","_law_due"]) F (mg_of Z.X Z.G a) (λ_ _ _ _ _ _=>Y3 λ_ _=>rfl)))
def FK (Z:Zz K h mg):qG P w K mg base 2 "_law_same" 2 Pe:=by obtain⟨f,d,F,a⟩:=Z.T.Gg;exact(Gb (k:=1) Z.B F (mg_of Z.X Z.G a) (FC Z))
def FV (Z:Zz K h mg):qG P w K mg base 3 "_law_same" 2 R8:=by obtain⟨f,d,F,a⟩:=Z.T.Gg;exact(Gb (k:=2) Z.B F (mg_of Z.X Z.G a) (FK Z))
def Ee (Z:Zz K h mg):qG P w K mg base 4 "_law_same" 2 QE:=by obtain⟨f,d,F,a⟩:=Z.T.Gg;exact(Gb (k:=3) Z.B F (mg_of Z.X Z.G a) (FV Z))
def WV:Qx 5 "require_table" 1 1:=⟨_,λZ=>gY Z Z.T.IY λn h x=>zp (jW (UK (gT (kN (zY (EY Z).up h (zm (zc 0) zt))))) (zp (Gk x (Z.C.exc "NoTable" (by decide +kernel)) (zm Ym zt) (zw zO)) zC) zC) zC⟩
def VE:Fn:=w5 1 WV.1
def IV (Z:Zz K h mg):ym P w K mg base 5 "require_table" 1 VE:=WV.2 Z
def Vv:Qm 5 "_law_all_weights" 1 11:=mq (·.T.Iv) λZ n h=>zp (Kt (qO (zm (zY (RK Z).up h (zm (zc 0) zt)) (zm (zY (V4 Z).up h (zm (zc 0) zt)) zt)) (zw (zw zO))) (kA 1 2 rfl n)) (zp (qb 3 n (qV (zm (qO (zm zB zt) (zw zO)) zt) (zw zO))) (zp (je PassesOwn.never rfl (GI rfl Z.B.qW zB (qK Z.B.qJ (qt (zc 2)))) (qZ 4 n) (zp (qb 5 n (qV zt zO)) (zp (je PassesOwn.never rfl (jE (zc 3)) (qZ 6 n) (zp (yX (Px (zc 5) (wM (jC [6] (GI rfl Z.B.qW (Z5 zB (zW (zc 2) (zc 4))) (jy (zW (zc 2) (zc 4)) zB)) (λ_ _ _=>jy (zc 1) (qO (zm (zc 0) zt) (zw zO))))))) zC)) (zp (qb 3 n (qV zt zO)) (zp (je PassesOwn.never rfl (jE (zc 5)) (qZ 6 n) (zp (qb 7 n j0) (zp (je PassesOwn.never rfl (jg rfl Z.B.qW (jy (zc 4) zB)) (qZ 8 n) (zp (QG 9 (N:=["_law_k","_law_numbers_here","_law_kind","_law_i"]) 1 [1,4,8] n rfl (cps (by kernel_rfl)) (by kernel_rfl) (GI rfl Z.B.qW (jy (zc 4) zB) (qK Z.B.qJ (qt (zc 2)))) (λ_ _ _=>⟨qZ 0 (kG (by kernel_rfl)),wA,wj (zW (zW (zW (zc 1) (zc 0)) (zc 3)) (zc 2))⟩)) (zp (jW (yt (wW h) (Yh rfl Z.B.Jx (qt (jy (zc 9) (qV (zm zB zt) (zw zO))))) zB) (zp (qb 10 n (UN rfl Z.B.TV (yg (jC [1,4,6,8] (jg rfl Z.B.qW (jy (zc 4) zB)) (λ_ _ _=>qQ (zW (zW (zW (zc 1) (zc 0)) (zc 4)) (zc 2)) (zW (zc 3) (zc 0))))))) (zp (qb 7 n (Zk (zc 7) (ZL (wV (wW h) (qQ (zW (zc 6) (zc 8)) (zW (zc 6) (zc 4))) (zc 10))))) zC)) zC) zC))) (zp (jW (kN (zc 7)) (zp (yX (gn (zc 3) (zc 6))) zC) zC) zC)))) zC))))) (zp (qk (Cg (DU rfl Z.B.BF (wM (Yy (N:=["_law_row","_law_table"]) 1 [0] (jE (zc 3)) (λ_ _ _=>⟨qZ 0 (kG (by kernel_rfl)),UD (kN (zY (IA Z).up h (zm (zc 1) (zm (zc 0) zt)))),wj (zc 0)⟩)))) (U1 zB))) zC)))
def Ry:Fn:=qm 11 Vv.1
def Q7:Fn:=iso Ry
def Iw:Gt 5 "_law_all_weights" 1 Q7:=Gi Vv.2
def Y6:Qx 6 "require_steady" 1 1:=⟨_,λZ=>gY Z Z.T.IQ λn h x=>zp (yX (Jg x (IV Z).up h (zm (zc 0) zt))) (zp (jW (UK (yt AJ (zY (Hw Z).up h (zm (zc 0) zt)) Yn)) (zp (Gk x (Z.C.exc "NotSteady" (by decide +kernel)) (zm Ym zt) (zw zO)) zC) zC) zC)⟩
def QA:Fn:=w5 1 Y6.1
def IE (Z:Zz K h mg):ym P w K mg base 6 "require_steady" 1 QA:=Y6.2 Z
def WT:Qx 7 "is_whole_table" 1 1:=⟨_,λZ=>gY Z Z.T.IS λn h x=>zp (yX (Jg x (IE Z).up h (zm (zc 0) zt))) (Oq (zp (qk (wV (wW h) (qK Z.B.qJ (qt (zY (RC Z).up h (zm (zc 0) zt)))) (zY (W5 Z).up h (zm (zc 0) zt)))) zC))⟩
def Vy:Fn:=w5 1 WT.1
def IF (Z:Zz K h mg):ym P w K mg base 7 "is_whole_table" 1 Vy:=WT.2 Z
def Y7:Qx 8 "require_whole" 1 1:=⟨_,λZ=>gY Z Z.T.Hf λn h x=>zp (jW (gT (kN (Jg x (IF Z).up h (zm (zc 0) zt)))) (zp (Gk x (Z.C.exc "NotWhole" (by decide +kernel)) (zm Ym zt) (zw zO)) zC) zC) zC⟩
def JY:Fn:=w5 1 Y7.1
def IU (Z:Zz K h mg):ym P w K mg base 8 "require_whole" 1 JY:=Y7.2 Z
def Y8:Qx 9 "turned_number" 4 13:=⟨_,λZ=>gY Z Z.T.He λn h x=>zp (yX (Jg x (IU Z).up h (zm (zc 0) zt))) (zp (qb 4 n (Am (zY (RC Z).up h (zm (zc 0) zt)))) (zp (je PassesOwn.leaving rfl (jE (qO (zm (zc 1) (zm (zc 2) (zm (zc 3) zt))) (zw (zw (zw zO))))) (qZ 5 n) (zp (jW (UK (gT (kN (zY (IW Z).up h (zm (zc 5) (zm (qK Z.B.qJ (qt (zc 4))) zt)))))) (zp (Gk x (Z.C.exc "NoNumber" (by decide +kernel)) (zm Ym zt) (zw zO)) zC) zC) zC)) (Oq (zp (qb 6 n (zY (VS Z).up h (zm (zc 0) zt))) (zp (qb 7 n zB) (zp (je PassesOwn.never rfl (jE (zc 6)) (qZ 8 n) (zp (qb 7 n (qQ (zc 7) (zc 8))) zC)) (zp (qb 9 n zB) (zp (je PassesOwn.never rfl (Jk rfl Z.B.Jc (zc 6)) (kA 10 8 rfl n) (zp (qb 11 n (qQ (qQ (zW (zW (zc 4) (zc 1)) (zc 10)) (zW (zW (zc 4) (zc 2)) (zc 10))) (zW (zW (zc 4) (zc 3)) (zc 10)))) (zp (AV 9 n (qQ (zc 11) (KD (wB (zc 7) (zc 8)) zB))) zC))) (zp (qb 12 n (qQ (zY (RS Z).up h (zm (zc 0) (zm (zW (zc 4) (zc 1)) zt))) (zY (RS Z).up h (zm (zc 0) (zm (zW (zc 4) (zc 2)) zt))))) (zp (qk (zY (BE Z).up h (zm (qQ (zc 12) (zc 9)) (zm (qQ (qK Z.B.qJ (qt (zc 0))) (KD (zc 7) zB)) zt)))) zC))))))))))⟩
def kz:Fn:=w5 13 Y8.1
def J1:Fn:=iso (λw A=>(kz w A).nox)
def Vz (Z:Zz K h mg):ym P w K mg base 9 "turned_number" 4 kz:=Y8.2 Z
def IZ (Z:Zz K h mg):qG P w K mg base 9 "turned_number" 4 J1:=(Vz Z).m.iso
end
end G
namespace Mi
open PySem L2
noncomputable abbrev iV (n:Int):Option W:=some (.int n)
noncomputable abbrev rO (n:Nat):Option W:=some (.ref n)
section
variable {m:Ev}
def QK (h:m ρ A=.ok (.tup ws) A1):qF m ρ A=.ok ⟨λA i=>(zK (.tup ws) A).map λws=>ws[i]?,ws.length⟩ A1:=by
 unfold qF YM;rw[h,zI]
 rfl
def Km (h:m ρ A=.ok (.tup ws) A)(l:ws.length<=zT){g:W->W}(a:∀w∈ws,me (some w::cap.map λi=>(ρ[i]?).join) A=.ok (g w) A):
  qy 1 cap (qF m) (zN 0) (qa (.bl true)) (ql me) ρ A=.ok (ws.map g) A:=by
 have e:=gr (cap:=cap) (me:=me) (ρ:=ρ) (A:=A) (N:=ws.length) (item:=λi=>ws.getD i .non) (g:=λi=>g (ws.getD i .non)) (QK h) rfl l
  (λi H=>by show some ws[i]? =_;rw[ae H,aa,ae H];rfl)
  (by show some ws[ws.length]? =_;rw[az (ao _)])
  (λi H=>by
   have:ws.getD i .non=ws[i]:=by rw[aa,ae H];rfl
   rw[this];exact a _ (aL H))
 rw[e]
 congr 1
 apply a9
 ·simp
 ·intro i c b
  have H:i<ws.length:=by simpa using b
  simp[aa,ae H]
theorem Ur (p:α->Bool):∀l:List α,gx (l.map λx=>W.bl (p x))=some (l.map p)
 |[]=>rfl|x::l=>by
  show(match YH (.bl (p x)),gx (l.map λx=>W.bl (p x)) with|some k,some K=>some (k::K)|_,_=>none)=_
  rw[Ur p l];rfl
def Ku {p:α->Bool}{l:List α}(h:∀x∈l,p x=true):Ws (l.map λx=>W.bl (p x)) A=.ok (.bl true) A:=by
 show Zu (λK=>K.all id) _ A=_;unfold Zu;rw[Ur];dsimp only
 have:(l.map p).all id=true:=by rw[all_map];exact cu.mpr λx H=>h x H
 rw[this]
theorem Z4 {f:α->W}(h:∀x,(f x).nr=true):∀l:List α,qN (l.map f)=true
 |[]=>rfl|x::l=>by show((f x).nr&&qN (l.map f))=true;rw[h x,Z4 h l];rfl
def gL (i j:Int)(A:Hx):yd (.int i) (.int j) A=.ok (.bl (decide (i=j))) A:=by
 show R.ok (W.bl (PyData.eqv (.int i) (.int j))) A=_;simp[PyData.eqv]
 rfl
def JU (i j:Int)(A:Hx):ju (.int i) (.int j) A=.ok (.bl (!decide (i=j))) A:=by
 show R.ok (W.bl (!PyData.eqv (.int i) (.int j))) A=_;simp[PyData.eqv]
 rfl
def L5 (i j:Bool)(A:Hx):ju (.bl i) (.bl j) A=.ok (.bl (!(i==j))) A:=by cases i<;>cases j<;>rfl
end
noncomputable def zq (r:bN):W:=.tup (r.map W.int)
def zo (t:bM):W:=.tup (t.map zq)
def KH (r:bN):(zq r).nr=true:=by show qN (r.map W.int)=true;exact Z4 (λ_=>rfl) r
def ZK (t:bM):(zo t).nr=true:=by show qN (t.map zq)=true;exact Z4 KH t
def P1 {st:W->Ex}{N:Nat}{item:Nat->W}{I:En->Prop}(t:∀i,i<N->j.at_ A i=some (some (item i)))(H:j.at_ A N=some none)
  (e:∀i,i<N->∀o,I o->∃a,st (item i) o A=.ok (.nx a) A/\I a):∀(n i:Nat)(o:En),i+n=N->I o->∃a,jS j st n i o A=.ok (.nx a) A/\I a:=by
 intro n
 induction n with
 |zero=>
  intro i o h c
  have:i=N:=by lia
  subst this;exact⟨o,Gr H,c⟩
 |succ n d=>
  intro i o h c;obtain⟨p,f,l⟩:=e i (by lia) o c
  obtain⟨b,E,g⟩:=d (i+1) p (by lia) l
  exact⟨b,(Jh (t i (by lia)) f).trans E,g⟩
def Yd {m:Ev}(h:m ρ A=.ok (.tup ws) A1):Zo m ρ A=.ok (yi (.tup ws) ws.length) A1:=by
 unfold Zo;rw[h,zI]
 rfl
def YG {w:W}(h:ws[i]? =some w):(yi (.tup ws) ws.length).at_ A i=some (some (.tup [.int i,w])):=by show atEnd ws i _=_;unfold atEnd;rw[h]
def Yr:(yi (.tup ws) ws.length).at_ A ws.length=some none:=by show atEnd ws _ _=_;unfold atEnd;rw[az (ao _)];exact ai rfl
noncomputable def at2 (t:bM)(a b:Nat):Int:=(t.getD a []).getD b 0
structure qj (t:bM):Prop where
 n1:1<=t.length
 n8:t.length<=8
 sq:∀r∈t,r.length=t.length
 lo:∀r∈t,∀v∈r,0<=v/\v<(t.length:Int)
 dg:∀a b,a<t.length->b<t.length->(at2 t a b=0↔a=b)
 sy:∀a b,a<t.length->b<t.length->at2 t a b=at2 t b a
 fu:∀k:Nat,(∃v∈t.flatten,(k:Int)<v)->(k:Int)∈t.flatten
section
variable {a b:Nat}
def K1 (h:a<t.length):(t.map zq)[a]? =some (zq (t.getD a [])):=by rw[av,aa,ae h];rfl
def yY (h:a<t.length):t.getD a []∈t:=by rw[aa,ae h];exact aL h
def Jo (h:a<t.length):zD (zo t) (.int a) A=.ok (zq (t.getD a [])) A:=by
 unfold zD;show(match gk (t.map zq) (a:Int) with|some w=>R.ok w A|none=>R.bad)=_
 rw[GW (K1 h)]
def int_at {r:bN}(h:b<r.length):(r.map W.int)[b]? =iV (r.getD b 0):=by rw[av,aa,ae h];rfl
def kQ {r:bN}(h:b<r.length:=by lia):zD (zq r) (.int b) A=.ok (.int (r.getD b 0)) A:=by
 unfold zD;show(match gk (r.map W.int) (b:Int) with|some w=>R.ok w A|none=>R.bad)=_
 rw[GW (v:=.int (r.getD b 0)) (by rw[av,aa,ae h];rfl)]
end
section
def Bb {c:Option W}(b:∀i,i<ws.length->j.at_ A i=some (some (ws.getD i .non)))(H:j.at_ A ws.length=some none)(n:∀w,me [c,some w] A=.ok w A):
  ∀(f i:Nat)(x:Option W)(g:List W),i+f=ws.length->g.length+f<=zT->∃y,ja j (zN 1) (qa (.bl true)) (ql me) f i [c,x] g A=.ok ([c,y],g++ws.drop i) A:=by
 intro f
 induction f with
 |zero=>
  intro i x g h l
  have:i=ws.length:=by lia
  subst this;refine⟨x,?_⟩;unfold ja;rw[H,drop_length,aX]
 |succ f I=>
  intro i x g h l;have a:i<ws.length:=by lia
  have E:ws.getD i .non=ws[i]:=by rw[aa,ae a];rfl
  obtain⟨y,e⟩:=I (i+1) (some ws[i]) (g++[ws[i]]) (by lia) (by rw[ay,aW];lia)
  refine⟨y,?_⟩;rw[ja,b i a,E];dsimp only[zN,List.set,qa];rw[zI];dsimp only;have d:ql me [c,some ws[i]] g A=.ok ([c,some ws[i]],g++[ws[i]]) A:=by unfold ql;rw[n,zI,ai (by lia)]
  rw[d,zI];rw[e,aR]
  congr 3
  rw[List.singleton_append,<- List.drop_eq_getElem_cons a]
def DJ (d:∀i,i<t.length->j.at_ A i=some (some (zq (t.getD i []))))(H:j.at_ A t.length=some none):
  ∀(f i:Nat)(x y:Option W)(o:List W),i+f=t.length->o.length+(t.drop i).flatten.length<=zT->
   ∃ρ,ja j (zN 0) (qa (.bl true)) (QW (qF (zM 0)) (zN 1) (qa (.bl true)) (ql (zM 1))) f i [x,y] o A=.ok (ρ,o++(t.drop i).flatten.map W.int) A:=by
 intro f
 induction f with
 |zero=>
  intro i x y o h l
  have:i=t.length:=by lia
  subst this;refine⟨[x,y],?_⟩;unfold ja;rw[H,drop_length];simp
 |succ f I=>
  intro i x y o h l;have a:i<t.length:=by lia
  have r:t.getD i []=t[i]:=by rw[aa,ae a];rfl
  have e:t.drop i=t[i]::t.drop (i+1):=List.drop_eq_getElem_cons a;rw[e,a8,ay]at l;obtain⟨z,E⟩:=Bb (A:=A) (j:=⟨λA i_1=>(zK (zq t[i]) A).map λp=>p[i_1]?,(t[i].map W.int).length⟩) (me:=zM 1) (ws:=t[i].map W.int) (c:=some (zq t[i]))
   (λk b=>by show some (t[i].map W.int)[k]? =_;rw[aa,ae b];rfl)
   (by show some (t[i].map W.int)[(t[i].map W.int).length]? =_;rw[az (ao _)])
   (λw=>zh rfl) (t[i].map W.int).length 0 y o (by lia) (by rw[ag];lia)
  rw[List.drop_zero]at E;obtain⟨ρ,n⟩:=I (i+1) (some (zq t[i])) z (o++t[i].map W.int) (by lia) (by rw[ay,ag];lia)
  refine⟨ρ,?_⟩;rw[ja,d i a,r];dsimp only[zN,List.set,qa];rw[zI];dsimp only;have g:QW (qF (zM 0)) (zN 1) (qa (.bl true)) (ql (zM 1)) [some (zq t[i]),y] o A=.ok ([some (zq t[i]),z],o++t[i].map W.int) A:=by unfold QW;rw[QK (ws:=t[i].map W.int) (A1:=A) (zh (i:=0) rfl),zI];exact E
  rw[g,zI];rw[n,e,a8,aN,aR]
def iY {m:Ev}(h:m ρ A=.ok (zo t) A)(H:t.flatten.length<=zT):
  qy 2 [] (qF m) (zN 0) (qa (.bl true)) (QW (qF (zM 0)) (zN 1) (qa (.bl true)) (ql (zM 1))) ρ A=.ok (t.flatten.map W.int) A:=by
 have n:(t.map zq).length=t.length:=ag ..;obtain⟨a,e⟩:=DJ (t:=t) (A:=A) (j:=⟨λA i=>(zK (zo t) A).map λw=>w[i]?,(t.map zq).length⟩) (λi b=>by show some (t.map zq)[i]? =_;rw[K1 b])
  (by show some (t.map zq)[t.length]? =_;rw[az (by lia)]) t.length 0 none none [] (by lia) (by simpa using H)
 unfold qy;rw[QK (ws:=t.map zq) h,zI];show R.bind (R.nox (ja ⟨λA i=>(zK (zo t) A).map λw=>w[i]?,(t.map zq).length⟩ _ _ _ (t.map zq).length 0 [none,none] [] A)) _=_;rw[n]at e ⊢;rw[e];simp
 rfl
end
theorem Kg:∀l:bN,intsOf (l.map W.int)=some l
 |[]=>rfl|i::l=>by
  show(match intsOf (l.map W.int) with|some I=>some (i::I)|none=>none)=_
  rw[Kg l]
theorem Uu:∀(l:bN)(m:Int),yk l m=m∨yk l m∈l
 |[],_=>.inl rfl|i::l,m=>by
  show yk l (if i > m then i else m)=m∨yk l (if i > m then i else m)∈i::l;rcases Uu l (if i > m then i else m) with e|e
  ·by_cases h:i > m
   ·rw[ai h]at e ⊢;exact .inr (by rw[e];exact aF ..)
   ·rw[aj h]at e ⊢;exact .inl e
  ·exact .inr (aA _ e)
end Mi
namespace G
open PySem L2 Mi
def BJ (h:qj t):t.flatten.length<=64:=by
 have:∀l:bM,(∀r∈l,r.length<=8)->l.flatten.length<=8 * l.length:=by
  intro l
  induction l with
  |nil=>intro _;simp|cons r l i=>
   intro H;have e:=H r (aF ..);have d:=i λb a=>H b (aA _ a);rw[a8,ay,bc];lia
 have c:=h.n8
 have:=this t λr H=>by rw[h.sq r H];exact h.n8
 lia
noncomputable abbrev iO (n:Nat):Option W:=some (.int (n:Int))
noncomputable abbrev bO (b:Bool):Option W:=some (.bl b)
section
def iZ (h:ρ[i]? =some (some (zo t))):mQ qe (zZ (zM i)) ρ A=.ok (.int t.length) A:=by rw[jF (yr (w:=zo t) (A1:=A) (zh h) rfl)];unfold qe;rw[ag]
def ZI (h:n<1000000):jl (n:Int)=true:=by unfold jl;simp;lia
end
def Z7 {m:Ev}(h:m ρ A=.ok (.ref n) A1)(H:A1[n]? =some (.lst ws)):qF m ρ A=.ok ⟨λA i=>(zK (.ref n) A).map λws=>ws[i]?,ws.length⟩ A1:=by
 unfold qF YM;rw[h,zI];have e:zK (.ref n) A1=some ws:=by unfold zK;dsimp only;rw[H]
 rw[e]
def kD (h:A[n]? =some (.lst ws)):((zK (.ref n) A).map λws=>ws[i]?)=some ws[i]?:=by
 have e:zK (.ref n) A=some ws:=by unfold zK;dsimp only;rw[h]
 rw[e];rfl
def ko:List Int->Int
 |[]=>0|i::is=>yk is i
def UM {r:bN}(h:r≠[]):wY (r.map W.int) A=.ok (.int (ko r)) A:=by
 unfold wY;rw[Kg];cases r with|nil=>exact absurd rfl h|cons i I=>rfl
def GF {r:bN}(h:r≠[]):ko r∈r:=by
 cases r with
 |nil=>exact absurd rfl h|cons i I=>
  rcases Uu I i with e|e
  ·show yk I i∈_;rw[e];exact aF ..
  ·exact aA _ e
def qh (t:bM):Int:=ko (t.map ko)+1
section
def _root_.Mi.qj.row_ne (h:qj t){r:bN}(H:r∈t):r≠[]:=λe=>by have a:=h.sq r H;have b:=h.n1;rw[e,List.length_nil]at a;lia
def _root_.Mi.qj.map_ne (h:qj t):t.map ko≠[]:=λe=>by
 have:=h.n1
 rw[List.map_eq_nil_iff]at e;rw[e]at this;simp at this
def kg (h:qj t):1<=qh t/\qh t<=8:=by
 obtain⟨r,H,e⟩:=cn.mp (GF h.map_ne)
 have:=h.lo r H _ (GF (h.row_ne H))
 have:=h.n8
 unfold qh;rw[<- e];lia
def YA (h:qj t){a b:Nat}(H:a<t.length)(d:b<t.length):0<=at2 t a b/\at2 t a b<8:=by
 have c:=h.sq _ (yY H)
 have:(t.getD a []).getD b 0∈t.getD a []:=by rw[aa (l:=t.getD a []),ae (by lia)];exact aL _
 have e:=h.lo _ (yY H) _ this
 have:=h.n8
 unfold at2;lia
def KR (h:q ρ A=.ok ws A1):mQ Zp q ρ A=.ok (.tup ws) A1:=(jF h).trans rfl
end
end G
namespace Mi
open PySem L2
def wa {w:W}{s:Nat}(h:A[n]? =some (.lst ws))(H:ws[s]? =some w):zD (.ref n) (.int s) A=.ok w A:=by
 unfold zD;have e:zK (.ref n) A=some ws:=by unfold zK;dsimp only;rw[h]
 rw[e];dsimp only;rw[GW H]
def jq {o u:O}(h:A[n]? =some o):(A++[u])[n]? =some o:=by
 have:=(cj.mp h).1
 rw[ah this];exact h
def qH {u:O}:(A++[u])[A.length]? =some u:=by simp
noncomputable def JH (c:Nat->Nat->Int)(a b:Nat)(k:Int):Nat->Nat->Int:=λi j=>if i=a/\j=b then k else c i j
structure Mu (n:Nat)(μ:Nat->Nat->Int)(c:Nat)(done:Nat->Nat->Prop):Prop where
 dg:∀i,μ i i=0
 sy:∀i j,μ i j=μ j i
 dn:∀i j,i<j->j<n->done i j->1<=μ i j/\μ i j<=(c:Int)
 un:∀i j,i<j->j<n->¬done i j->μ i j=0
 fu:∀k:Nat,1<=k->k<=c->∃i j,i<n/\j<n/\μ i j=(k:Int)
noncomputable def jT (n:Nat)(a:Nat->Nat->Int):bM:=(List.range n).map λi=>(List.range n).map (a i)
def Kx {a:Nat->Nat->Int}{j:Nat}(H:i<n)(h:j<n):at2 (jT n a) i j=a i j:=by
 unfold at2 jT;rw[aa (l:=(List.range n).map λi=>(List.range n).map (a i)),av,aU H];show((List.range n).map (a i)).getD j 0=_;rw[aa,av,aU h]
 rfl
def Mu.tab {c:Nat}{B:Nat->Nat->Int}{d:Nat->Nat->Prop}(h:Mu n B c d)(all:∀i j,i<j->j<n->d i j)(D:1<=n)(C:n<=8)(A:n=1∨c<n):qj (jT n B):=by
 have len:(jT n B).length=n:=by unfold jT;simp
 have val:∀i j,i<n->j<n->i≠j->1<=B i j/\B i j<=(c:Int):=λi j H f N=>by
  rcases Nat.lt_or_gt_of_ne N with q|q
  ·exact h.dn i j q f (all i j q f)
  ·rw[h.sy];exact h.dn j i q H (all j i q H)
 have mem:∀r∈jT n B,∀v∈r,∃i j,i<n/\j<n/\v=B i j:=λr g v p=>by unfold jT at g;obtain⟨i,H,rfl⟩:=cn.mp g;obtain⟨j,f,rfl⟩:=cn.mp p;exact⟨i,j,cf.mp H,cf.mp f,rfl⟩
 have I:∀i j,i<n->j<n->B i j∈(jT n B).flatten:=λi j H f=>List.mem_flatten.mpr ⟨_,cn.mpr ⟨i,cf.mpr H,rfl⟩,cn.mpr ⟨j,cf.mpr f,rfl⟩⟩;refine⟨by rw[len];exact D,by rw[len];exact C,λr g=>?_,λr g v p=>?_,λa b o l=>?_,λa b o l=>?_,λk z=>?_⟩
 ·rw[len]
  unfold jT at g;obtain⟨i,H,rfl⟩:=cn.mp g;simp
 ·rw[len]
  obtain⟨i,j,H,f,rfl⟩:=mem r g v p
  by_cases q:i=j
  ·subst q;rw[h.dg];lia
  ·have:=val i j H f q
   lia
 ·rw[len]at o l
  rw[Kx o l]
  constructor
  ·intro e
   by_cases q:a=b
   ·exact q
   ·have:=val a b o l q;lia
  ·intro e;subst e;exact h.dg a
 ·rw[len]at o l
  rw[Kx o l,Kx l o];exact h.sy a b
 ·obtain⟨v,p,u⟩:=z
  obtain⟨r,g,t⟩:=List.mem_flatten.mp p;obtain⟨i,j,H,f,rfl⟩:=mem r g v t
  by_cases K:k=0
  ·subst K
   have:=I 0 0 (by lia) (by lia)
   rw[h.dg]at this;exact this
  ·by_cases q:i=j
   ·subst q;rw[h.dg]at u;lia
   ·have:=val i j H f q
    obtain⟨y,J,x,w,e⟩:=h.fu k (by lia) (by lia)
    have:=I y J x w
    rw[e]at this;exact this
end Mi
namespace G
open PySem L2 Mi
def jt {i j:Int}(H:-(2 ^ 64)<i:=by lia)(h:i<2 ^ 64:=by lia):qd (.int i) (.int j) A=.ok (.int (i * j)) A:=by unfold qd;dsimp only;rw[ai];unfold YK;rw[a3,ak,aq,aq];exact .inl ⟨H,h⟩
def Qf {i j:Int}(h:0<j):Jt (.int i) (.int j) A=.ok (.int (i%j)) A:=by unfold Jt ZE;dsimp only;rw[ai];unfold X0;exact ax h
def Qd {i j:Int}(h:0<j)(H:j<1152921504606846976):Wg (.int i) (.int j) A=.ok (.int (i/j)) A:=by unfold Wg ZE;dsimp only;rw[ai];unfold XA;rw[ak,aq,aq];exact⟨h,H⟩
def i0 {c m:Int}(h:0<m)(H:m<1000000000000000):QF [.ref 0,.int m] [.lst [.int c,.bl true]]=.ok (.int (c%m)) [.lst [.int (c/m),.bl true]]:=by
 refine qP ?_;dsimp only[Gf,mq];refine qp (A1:=[.lst [.int (c/m),.bl true]]) ?_;refine(kh (A1:=[.lst [.int c,.bl true]]) rfl).trans ?_;refine(zy (ρ1:=[rO 0,iV m,iV (c%m),none]) (A1:=[.lst [.int c,.bl true]]) ?_).trans ?_
 ·refine(qg (w:=.int (c%m)) (A1:=[.lst [.int c,.bl true]]) ?_).trans rfl
  exact(zA (x:=.int c) (y:=.int m) (A1:=[.lst [.int c,.bl true]]) (A2:=[.lst [.int c,.bl true]]) rfl rfl).trans (Qf h)
 ·refine(zy (ρ1:=[rO 0,iV m,iV (c%m),none]) (A1:=[.lst [.int (c/m),.bl true]]) ?_).trans rfl
  have e:zj Wg (zj zD zH qD) zF [rO 0,iV m,iV (c%m),none] [.lst [.int c,.bl true]]=.ok (.int (c/m)) [.lst [.int c,.bl true]]:=
   (zA (x:=.int c) (y:=.int m) (A1:=[.lst [.int c,.bl true]]) (A2:=[.lst [.int c,.bl true]]) rfl rfl).trans (Qd h (by lia))
  unfold Yq;rw[e,zI]
  rfl
noncomputable def Q1 (c:Int):Int:=(c * 48271+29)%2147483647
noncomputable def Zh (d:Int):Int:=(d * d+39373 * d+7)%2147483629
noncomputable def ZC (e:Int):Int:=(e * e+16807 * e)%2147483587
def TZ (c:Int):0<=Q1 c/\Q1 c<2147483647:=⟨bw _ (by decide),bh _ (by decide)⟩
def i3 (c:Int):0<=Zh c/\Zh c<2147483629:=⟨bw _ (by decide),bh _ (by decide)⟩
def i4 {c m:Int}(H:0<=c)(h:c<2147483647)(n:0<m)(o:m<1000000000000000):QF [.ref 0,.int m] [.lst [.int c,.bl false]]=.ok (.int (ZC (Zh (Q1 c))/8%m)) [.lst [.int (Q1 c),.bl false]]:=by
 have j:=TZ c;refine qP ?_;dsimp only[Gf,mq];refine(zy (ρ1:=[rO 0,iV m,none,none]) (A1:=[.lst [.int c,.bl false]]) ((jX (A1:=[.lst [.int c,.bl false]]) rfl).trans rfl)).trans ?_;have i:zj Jt (zj qR (zj qd (zj zD zH qD) (qa (.int 48271))) (qa (.int 29))) (qa (.int 2147483647)) [rO 0,iV m,none,none] [.lst [.int c,.bl false]]=.ok (.int (Q1 c)) [.lst [.int c,.bl false]]:=by
  have l:zj qd (zj zD zH qD) (qa (.int 48271)) [rO 0,iV m,none,none] [.lst [.int c,.bl false]]=.ok (.int (c * 48271)) [.lst [.int c,.bl false]]:=
   (zA (x:=.int c) (y:=.int 48271) (A1:=[.lst [.int c,.bl false]]) (A2:=[.lst [.int c,.bl false]]) rfl rfl).trans jt
  refine(zA (x:=.int (c * 48271+29)) (y:=.int 2147483647) (A1:=[.lst [.int c,.bl false]]) (A2:=[.lst [.int c,.bl false]]) ((zA l rfl).trans rfl) rfl).trans ?_;exact Qf (by decide)
 refine(zy (ρ1:=[rO 0,iV m,none,none]) (A1:=[.lst [.int (Q1 c),.bl false]]) ?_).trans ?_
 ·unfold Yq
  rw[i,zI]
  rfl
 generalize Q1 c=d at*;have g:zj Jt (zj qR (zj qR (zj qd (zj zD zH qD) (zj zD zH qD)) (zj qd (qa (.int 39373)) (zj zD zH qD))) Vl) (qa (.int 2147483629)) [rO 0,iV m,none,none] [.lst [.int d,.bl false]]=
   .ok (.int (Zh d)) [.lst [.int d,.bl false]]:=by
  have l:zj qd (zj zD zH qD) (zj zD zH qD) [rO 0,iV m,none,none] [.lst [.int d,.bl false]]=.ok (.int (d * d)) [.lst [.int d,.bl false]]:=
   (zA (x:=.int d) (y:=.int d) (A1:=[.lst [.int d,.bl false]]) (A2:=[.lst [.int d,.bl false]]) rfl rfl).trans jt
  have E:zj qd (qa (.int 39373)) (zj zD zH qD) [rO 0,iV m,none,none] [.lst [.int d,.bl false]]=.ok (.int (39373 * d)) [.lst [.int d,.bl false]]:=
   (zA (x:=.int 39373) (y:=.int d) (A1:=[.lst [.int d,.bl false]]) (A2:=[.lst [.int d,.bl false]]) rfl rfl).trans (jt (by decide) (by decide))
  have a:zj qR (zj qd (zj zD zH qD) (zj zD zH qD)) (zj qd (qa (.int 39373)) (zj zD zH qD)) [rO 0,iV m,none,none] [.lst [.int d,.bl false]]=.ok (.int (d * d+39373 * d)) [.lst [.int d,.bl false]]:=
   (zA l E).trans rfl
  refine(zA (x:=.int (d * d+39373 * d+7)) (y:=.int 2147483629) (A1:=[.lst [.int d,.bl false]]) (A2:=[.lst [.int d,.bl false]]) ((zA a rfl).trans rfl) rfl).trans ?_;exact Qf (by decide)
 refine(zy (qg g)).trans ?_;have B:=i3 d;generalize Zh d=e at*;have b:zj Jt (zj qR (zj qd qi qi) (zj qd (qa (.int 16807)) qi)) (qa (.int 2147483587)) [rO 0,iV m,none,iV e] [.lst [.int d,.bl false]]=.ok (.int (ZC e)) [.lst [.int d,.bl false]]:=by
  have l:zj qd qi qi [rO 0,iV m,none,iV e] [.lst [.int d,.bl false]]=.ok (.int (e * e)) [.lst [.int d,.bl false]]:=
   (zA (x:=.int e) (y:=.int e) (A1:=[.lst [.int d,.bl false]]) (A2:=[.lst [.int d,.bl false]]) rfl rfl).trans jt
  have E:zj qd (qa (.int 16807)) qi [rO 0,iV m,none,iV e] [.lst [.int d,.bl false]]=.ok (.int (16807 * e)) [.lst [.int d,.bl false]]:=
   (zA (x:=.int 16807) (y:=.int e) (A1:=[.lst [.int d,.bl false]]) (A2:=[.lst [.int d,.bl false]]) rfl rfl).trans (jt (by decide) (by decide))
  refine(zA (x:=.int (e * e+16807 * e)) (y:=.int 2147483587) (A1:=[.lst [.int d,.bl false]]) (A2:=[.lst [.int d,.bl false]]) ((zA l E).trans rfl) rfl).trans ?_;exact Qf (by decide)
 refine(zy (qg b)).trans ?_;generalize ZC e=f at*;refine qp (qI ?_);refine(zA (x:=.int (f/8)) (y:=.int m) (A1:=[.lst [.int d,.bl false]]) (A2:=[.lst [.int d,.bl false]]) ?_ rfl).trans (Qf n);exact(zA (x:=.int f) (y:=.int 8) (A1:=[.lst [.int d,.bl false]]) (A2:=[.lst [.int d,.bl false]]) rfl rfl).trans (Qd (by decide) (by decide))
def qY (n:Nat)(A:Hx):Prop:=∃c b,A[n]? =some (.lst [.int c,.bl b])/\0<=c/\(b=false->c<2147483647)
def Yv (h:qY n A){m:Int}(i:0<m)(l:m<1000000000000000):∃r o,yx [.ref n,.int m] A=.ok (.int r) (A.set n o)/\0<=r/\r<m/\qY n (A.set n o):=by
 obtain⟨c,b,d,a,f⟩:=h;have j:n<A.length:=(cj.mp d).1;have g:∀(r C:Int),QF [.ref 0,.int m] [.lst [.int c,.bl b]]=.ok (.int r) [.lst [.int C,.bl b]]->yx [.ref n,.int m] A=.ok (.int r) (A.set n (.lst [.int C,.bl b])):=λr C e=>by
  unfold yx kI;dsimp only;rw[d];dsimp only;have H:(qN [W.int c,W.bl b]&&qN [W.int m])=true:=rfl;rw[ai H,e]
  rfl
 cases b with
 |true=>
  refine⟨c%m,_,g _ _ (i0 i l),bw _ (by lia),bh _ i,c/m,true,aw j,ediv_nonneg a (by lia),λz=>nomatch z⟩
 |false=>
  exact⟨_,_,g _ _ (i4 a (f rfl) i l),bw _ (by lia),bh _ i,Q1 c,false,aw j,(TZ c).1,λ_=>(TZ c).2⟩
end G
namespace Mi
open PySem L2
def Kr {k:Nat}{x y:List W}(h:A[n]? =some (.lst x))(a:A[k]? =some (.lst y))(H:x.length+y.length<=zT):qR (.ref n) (.ref k) A=.ok (.ref A.length) (A++[.lst (x++y)]):=by unfold qR;dsimp only;rw[h,a];dsimp only;rw[ai H]
def Ext (A A':Hx):Prop:=∃l,A'=A++l
def Ext.refl:Ext A A:=⟨[],by simp⟩
def Ext.trans {C:Hx}(a:Ext A B)(b:Ext B C):Ext A C:=let ⟨l,e⟩:=a;let ⟨k,f⟩:=b;⟨l++k,by rw[f,e,aR]⟩
def Ext.one {o:O}:Ext A (A++[o]):=⟨[o],rfl⟩
def Ext.at {A':Hx}{o:O}(x:Ext A A')(h:A[n]? =some o):A'[n]? =some o:=by
 obtain⟨l,rfl⟩:=x
 have:=(cj.mp h).1
 rw[ah this];exact h
def Ol {ifs:Ev}{N:Nat}{I:Nat->En->List W->Hx->Prop}
  (H:∀i r q A,i<N->I i r q A->∃w ρ1,j.at_ A i=some (some w)/\tw w r=some ρ1/\((∃A1 c a A2,ifs ρ1 A=.ok (.bl true) A1/\em ρ1 q A1=.ok (c,a) A2/\I (i+1) c a A2)∨(∃A1,ifs ρ1 A=.ok (.bl false) A1/\I (i+1) ρ1 q A1)))
  (e:∀r q A,I N r q A->j.at_ A N=some none):
  ∀(f i:Nat)(r:En)(q:List W)(A:Hx),i+f=N->I i r q A->∃d b A',ja j tw ifs em f i r q A=.ok (d,b) A'/\I N d b A':=by
 intro f
 induction f with
 |zero=>
  intro i r q A h g
  have:i=N:=by lia
  subst this;refine⟨r,q,A,?_,g⟩;unfold ja;rw[e _ _ _ g]
 |succ f n=>
  intro i r q A h g;obtain⟨w,ρ1,u,t,o⟩:=H i r q A (by lia) g
  rw[ja,u];dsimp only;rw[t];dsimp only;rcases o with ⟨A1,c,a,A2,l,p,E⟩|⟨A1,l,E⟩
  ·rw[l,zI]
   dsimp only;rw[p,zI];exact n (i+1) _ _ _ (by lia) E
  ·rw[l,zI]
   dsimp only;exact n (i+1) _ _ _ (by lia) E
def Ya {nl:Nat}{ifs:Ev}{N:Nat}{I:Nat->En->List W->Hx->Prop}(l:mi ρ A=.ok j A1)(f:j.len=N)
  (h:∀i ρ acc A,i<N->I i ρ acc A->∃w ρ1,j.at_ A i=some (some w)/\tw w ρ=some ρ1/\((∃A1 d b A2,ifs ρ1 A=.ok (.bl true) A1/\em ρ1 acc A1=.ok (d,b) A2/\I (i+1) d b A2)∨(∃A1,ifs ρ1 A=.ok (.bl false) A1/\I (i+1) ρ1 acc A1)))
  (H:∀ρ acc A,I N ρ acc A->j.at_ A N=some none)(n:I 0 (Qj nl cap ρ) [] A1):∃c a A',qy nl cap mi tw ifs em ρ A=.ok a A'/\I N c a A':=by
 obtain⟨c,a,A',e,g⟩:=Ol h H N 0 _ _ _ (by lia) n
 refine⟨c,a,A',?_,g⟩;unfold qy;rw[l,zI,f,e]
 rfl
def ye {st:W->Ex}{N:Nat}{I:Nat->En->Hx->Prop}
  (H:∀i g A,i<N->I i g A->∃w ρ1 A1,j.at_ A i=some (some w)/\st w g A=.ok (.nx ρ1) A1/\I (i+1) ρ1 A1)(d:∀g A,I N g A->j.at_ A N=some none):
  ∀(f i:Nat)(g:En)(A:Hx),i+f=N->I i g A->∃a A',jS j st f i g A=.ok (.nx a) A'/\I N a A':=by
 intro f
 induction f with
 |zero=>
  intro i g A h b
  have:i=N:=by lia
  subst this;exact⟨g,A,Gr (d _ _ b),b⟩
 |succ f c=>
  intro i g A h b;obtain⟨w,ρ1,A1,n,l,e⟩:=H i g A (by lia) b
  rw[Jh n l];exact c (i+1) _ _ (by lia) e
def Yi {a:List W}{y:W}(h:me ρ A=.ok y A1)(H:a.length<zT):ql me ρ a A=.ok (ρ,a++[y]) A1:=by unfold ql;rw[h,zI,ai H]
theorem take_succ {l:List α}(h:i<l.length):l.take (i+1)=l.take i++[l[i]]:=by rw[List.take_succ,ae h];rfl
def Ext.app {l:Hx}(x:Ext A B):Ext A (B++l):=x.trans ⟨l,rfl⟩
def Ext.len (x:Ext A B):A.length<=B.length:=by obtain⟨l,rfl⟩:=x;simp
def jU {o:O}(h:A[n]? =some o):n<A.length:=(cj.mp h).1
end Mi
namespace G
open PySem L2 Mi
def i5 {w:W}(H:A[n]? =some (.lst ws))(h:ws[i]? =some w):((zK (.ref n) A).map λws=>ws[i]?)=some (some w):=by rw[kD H,h]
def i6 (H:A[n]? =some (.lst ws))(h:ws.length<=i):((zK (.ref n) A).map λws=>ws[i]?)=some none:=by rw[kD H,az h]
theorem GO:∀(l:bN)(m:Int),m<=yk l m/\∀x∈l,x<=yk l m
 |[],m=>⟨Int.le_refl _,λx h=>by cases h⟩|y::l,m=>by
  unfold yk
  split
  ·rename_i a
   obtain⟨c,b⟩:=GO l y;refine⟨by lia,λx H=>?_⟩
   rcases cm.mp H with rfl|H
   ·exact c
   ·exact b x H
  ·rename_i a
   obtain⟨c,b⟩:=GO l m;refine⟨c,λx H=>?_⟩;rcases cm.mp H with rfl|H
   ·lia
   ·exact b x H
theorem PC:∀{l:List α}{k:Nat}{w:α},l[k]? =some w->l.Perm (w::l.eraseIdx k)
 |[],_,_,h=>by simp at h|x::l,0,w,h=>by simp at h;subst h;simp
 |x::l,k+1,w,h=>by rw[List.getElem?_cons_succ]at h;rw[List.eraseIdx_cons_succ];exact((PC h).cons x).trans (List.Perm.swap w x _)
def ER {k:Nat}{i:Int}{w:W}(h:A[n]? =some (.lst ws))(a:ws[k]? =some w)(H:jl i=true)(e:seqIndex? i ws.length=some k):ZN (.ref n) (.int i) A=.ok w (A.set n (.lst (ws.eraseIdx k))):=by unfold ZN;dsimp only;rw[h];dsimp only;rw[ai H,e];dsimp only;rw[a]
def i7 {k:Nat}(h:k<n):seqIndex? (k:Int) n=some k:=by
 have:=PySem.StrLaws.seqIndex_nonneg (i:=(k:Int)) (n:=n) (by lia) (by lia)
 rw[aB]at this;exact this
def DX {k:Nat}{w:W}(h:A[n]? =some (.lst ws))(a:ws[k]? =some w)(H:k<1000000):ZN (.ref n) (.int k) A=.ok w (A.set n (.lst (ws.eraseIdx k))):=
 ER h a (G.ZI H) (i7 (cj.mp a).1)
theorem P4 {b:Type}(f:α->b):∀(l:List α)(k:Nat),(l.map f).eraseIdx k=(l.eraseIdx k).map f
 |[],_=>rfl|_::_,0=>rfl|a::l,k+1=>by rw[aQ,List.eraseIdx_cons_succ,List.eraseIdx_cons_succ,aQ,P4 f l k]
def Jj {a b:Ev}{y:W}(c:a ρ A=.ok (.ref n) A)(d:A[n]? =some (.lst ws))(H:b ρ A=.ok y A1):yM g a b ρ A=g (.ref n) y A1:=by
 unfold yM;have h:Q4 (.ref n) A=true:=by unfold Q4;dsimp only;rw[d]
 rw[c,zI,ai h,H,zI]
def Gq {y:W}(h:A[n]? =some (.lst ws))(H:ws.length<1000):wc (.ref n) y A=.ok .non (A.set n (.lst (ws++[y]))):=by unfold wc;dsimp only;rw[h];dsimp only;rw[ai (by unfold zT;lia)]
def GS {f:Fn}{us:List W}{c C:Int}{b B:Bool}{w:W}(a:A[n]? =some (.lst [.int c,.bl b]))(H:qN us=true)(h:f (.ref 0::us) [.lst [.int c,.bl b]]=.ok w A1)(i:A1[0]? =some (.lst [.int C,.bl B]))(e:w.nr=true):kI f (.ref n::us) A=.ok w (A.set n (.lst [.int C,.bl B])):=by
 unfold kI;dsimp only;rw[a];dsimp only;have g:(qN [W.int c,W.bl b]&&qN us)=true:=by rw[H];rfl
 rw[ai g,h];dsimp only;rw[List.head?_eq_getElem?,i];dsimp only;have d:(qN [W.int C,W.bl B]&&w.nr)=true:=by rw[e];rfl
 rw[ai d]
noncomputable abbrev iL (l:bS):List W:=l.map λ(a:Nat)=>W.int a
def Dc {m:Ev}(h:m ρ A=.ok (.int n) A1)(H:n<=100):US m ρ A=.ok (.ref A1.length) (A1++[.lst (iL (List.range n))]):=by
 unfold US;rw[h,zI];dsimp only;rw[ZI (by lia),aB,ax (by unfold zT;lia)]
 rfl
def GG {m:Ev}{o:List α}{f:α->W}{G:α->W}(h:m ρ A=.ok (.tup (o.map f)) A)(l:o.length<=zT)(d:∀a∈o,me (some (f a)::cap.map λi=>(ρ[i]?).join) A=.ok (G a) A):
  qy 1 cap (qF m) (zN 0) q9 (ql me) ρ A=.ok (o.map G) A:=by
 by_cases c:o=[]
 ·subst c
  have e:=gr (cap:=cap) (me:=me) (ρ:=ρ) (A:=A) (N:=0) (item:=λ_=>.non) (g:=λ_=>.non) (QK h) rfl (by unfold zT;lia) (λi H=>by lia) rfl (λi H=>by lia)
  exact e
 ·obtain⟨x,b⟩:∃x,x∈o:=List.exists_mem_of_ne_nil o c
  have e:=gr (cap:=cap) (me:=me) (ρ:=ρ) (A:=A) (N:=o.length) (item:=λi=>f (o.getD i x)) (g:=λi=>G (o.getD i x)) (QK h) (ag ..) l
   (λi H=>by show some (o.map f)[i]? =_;rw[av,ae H,aa,ae H];rfl)
   (by show some (o.map f)[o.length]? =_;rw[az (by rw[ag];exact ao _)])
   (λi H=>by
    have:o.getD i x=o[i]:=by rw[aa,ae H];rfl
    rw[this];exact d _ (aL H))
  rw[e]
  congr 1
  apply a9
  ·simp
  ·intro i n j
   have H:i<o.length:=by simpa using j
   simp[aa,ae H]
def Y9 {a:Type}(o:List α)(x:α)(f:α->a):o.map f=(List.range o.length).map λi=>f (o.getD i x):=by
 apply a9
 ·simp
 ·intro i H b
  have h:i<o.length:=by simpa using H
  simp[aa,ae h]
def UU (q:∀r∈t,r.length=t.length){v:Int}(h:v∈t.flatten):∃a b,a<t.length/\b<t.length/\at2 t a b=v:=by
 obtain⟨r,H,e⟩:=List.mem_flatten.mp h;obtain⟨a,d,g⟩:=a6 H;obtain⟨b,c,f⟩:=a6 e;refine⟨a,b,d,by rw[<- q r H];exact c,?_⟩
 unfold at2;have E:t.getD a []=r:=by rw[aa,ae d];exact g
 rw[E,aa,ae c];exact f
def i8 (H:∀r∈t,r.length=t.length){a b:Nat}(d:a<t.length)(c:b<t.length):∃r∈t,at2 t a b∈r/\at2 t a b∈t.flatten:=by
 have e:t.getD a []∈t:=yY d;have f:at2 t a b∈t.getD a []:=by
  unfold at2;have h:b<(t.getD a []).length:=by rw[H _ e];exact c
  rw[aa (l:=t.getD a []),ae h];exact aL _
 exact⟨_,e,f,List.mem_flatten.mpr ⟨_,e,f⟩⟩
def UL {r:bN}{x:Int}(h:x∈r):x<=ko r:=by
 cases r with
 |nil=>cases h|cons i I=>
  show x<=yk I i;rcases cm.mp h with rfl|h
  ·exact(GO I x).1
  ·exact(GO I i).2 x h
section
def KP (h:qj t){a b:Nat}(d:a<t.length)(c:b<t.length):at2 t a b<qh t:=by obtain⟨r,H,f,_⟩:=i8 h.sq d c;have E:=UL f;have e:=UL (cn.mpr ⟨r,H,rfl⟩:ko r∈t.map ko);unfold qh;lia
def GR (h:qj t):qh t-1∈t.flatten:=by
 obtain⟨r,H,e⟩:=cn.mp (GF h.map_ne)
 have:qh t-1=ko r:=by unfold qh;lia
 rw[this];exact List.mem_flatten.mpr ⟨r,H,GF (h.row_ne H)⟩
def Xc (h:qj t):qh t<=(t.length:Int):=by
 obtain⟨r,a,H⟩:=List.mem_flatten.mp (GR h)
 have:=h.lo r a _ H
 lia
def Qa (h:qj t){v:Nat}(H:(v:Int)<qh t):∃a b,a<t.length/\b<t.length/\at2 t a b=(v:Int):=by
 by_cases e:(v:Int)=qh t-1
 ·rw[e];exact UU h.sq (GR h)
 ·exact UU h.sq (h.fu v ⟨_,GR h,by lia⟩)
noncomputable def ji (p:bS):bN:=0::p.map λ(k:Nat)=>1+(k:Int)
def wI (t:bM)(p o:bS):bM:=o.map λa=>o.map λb=>(ji p).getD (at2 t a b).toNat 0
def QL {p:bS}{v:Nat}(H:1<=v)(h:v<=p.length):(ji p).getD v 0=1+((p[v-1]'(by lia):Nat):Int):=by
 obtain⟨v,rfl⟩:∃u,v=u+1:=⟨v-1,by lia⟩
 unfold ji;rw[aa,List.getElem?_cons_succ,av,ae (by lia)]
 rfl
def PN (h:qj t){p o:bS}(n:p.Perm (List.range (qh t-1).toNat))(f:o.Perm (List.range t.length)):qj (wI t p o)/\(wI t p o).length=t.length:=by
 have l:o.length=t.length:=by rw[f.length_eq,aI]
 have kb:=kg h;have L:=Xc h;have B:p.length=(qh t-1).toNat:=by rw[n.length_eq,aI]
 have U:=h.n1;have H:∀i,o.getD i 0<t.length:=λi=>by
  by_cases T:i<o.length
  ·rw[aa,ae T]
   exact cf.mp (f.mem_iff.mp (aL T))
  ·rw[aa,az (by lia)]
   exact U
 have w:o.Nodup:=(f.nodup_iff).mpr nodup_range;have r:∀a,a<t.length->∃i,i<t.length/\o.getD i 0=a:=λa z=>by obtain⟨i,T,e⟩:=a6 (f.mem_iff.mpr (cf.mpr z));exact⟨i,by lia,by rw[aa,ae T];exact e⟩
 have c:∀q (g:q<p.length),p[q]<p.length:=λq g=>by
  have:=cf.mp (n.mem_iff.mp (aL g))
  lia
 have M:Mu t.length (λi j=>(ji p).getD (at2 t (o.getD i 0) (o.getD j 0)).toNat 0) p.length (λ_ _=>True):=by
  refine⟨λi=>?_,λi j=>?_,λi j C A _=>?_,λi j _ _ X=>absurd trivial X,λk Y N=>?_⟩
  ·show(ji p).getD (at2 t (o.getD i 0) (o.getD i 0)).toNat 0=0
   rw[(h.dg _ _ (H i) (H i)).mpr rfl]
   rfl
  ·show(ji p).getD (at2 t (o.getD i 0) (o.getD j 0)).toNat 0=(ji p).getD (at2 t (o.getD j 0) (o.getD i 0)).toNat 0
   rw[h.sy _ _ (H i) (H j)]
  ·show 1<=(ji p).getD (at2 t (o.getD i 0) (o.getD j 0)).toNat 0/\(ji p).getD (at2 t (o.getD i 0) (o.getD j 0)).toNat 0<=(p.length:Int)
   have u:o.getD i 0≠o.getD j 0:=by
    have y:i<o.length:=by lia
    have x:j<o.length:=by lia
    rw[aa,ae y,aa,ae x];intro e;have K:o[i]=o[j]:=e
    have:=(getElem_inj w).mp K
    lia
   have d:=h.dg _ _ (H i) (H j);have S:=YA h (H i) (H j);have Q:=KP h (H i) (H j);have P:at2 t (o.getD i 0) (o.getD j 0)≠0:=λe=>u (d.mp e);rw[QL (by lia) (by lia)]
   have:=c ((at2 t (o.getD i 0) (o.getD j 0)).toNat-1) (by lia)
   lia
  ·obtain⟨q,g,e⟩:=a6 (n.mem_iff.mpr (cf.mpr (by lia:k-1<(qh t-1).toNat)))
   obtain⟨a,b,z,D,J⟩:=Qa h (v:=q+1) (by lia)
   obtain⟨i,T,I⟩:=r a z;obtain⟨j,A,E⟩:=r b D;refine⟨i,j,T,A,?_⟩;show(ji p).getD (at2 t (o.getD i 0) (o.getD j 0)).toNat 0=(k:Int);rw[I,E,J,aB,QL (by lia) (by lia)]
   have:p[q+1-1]'(by lia)=k-1:=e
   rw[this];lia
 have hT:wI t p o=jT t.length (λi j=>(ji p).getD (at2 t (o.getD i 0) (o.getD j 0)).toNat 0):=by
  unfold wI jT;rw[Y9 o 0,l]
  congr 1
  funext i
  rw[Y9 o 0 (λb=>(ji p).getD (at2 t (o.getD i 0) b).toNat 0),l]
 refine⟨?_,by unfold wI;rw[ag,l]⟩
 rw[hT];exact M.tab (λ_ _ _ _=>trivial) U h.n8 (.inr (by lia))
end
end G
namespace Mi
open PySem L2
def i9 {r b:Nat}{v:W}(h:A[r]? =some (.lst ws))(H:b<ws.length):gD (.ref r) (.int b) v A=.ok () (A.set r (.lst (ws.set b v))):=by
 have e:Zd ws.length (b:Int)=some b:=by unfold Zd;rw[ai (by lia),ai (by lia),aB]
 unfold gD;dsimp only;rw[h];dsimp only;rw[e]
structure Kp (n:Nat)(A B:Hx):Prop where
 len:A.length<=B.length
 at_:∀i,i<A.length->i≠n->B[i]? =A[i]?
section
variable {C:Hx}
def Kp.refl:Kp n A A:=⟨ao _,λ_ _ _=>rfl⟩
theorem Kp.trans (a:Kp n A B)(b:Kp n B C):Kp n A C:=⟨a4 a.len b.len,λi H h=>(b.at_ i (aJ H a.len) h).trans (a.at_ i H h)⟩
theorem Kp.set {o:O}:Kp n A (A.set n o):=⟨by rw[bD];exact ao _,λi _ h=>au (Ne.symm h)⟩
def Kp.ext (x:Ext A B):Kp n A B:=by obtain⟨l,rfl⟩:=x;exact⟨by simp,λi h _=>ah h⟩
def Kp.get (a:Kp n A B){o:O}(h:A[i]? =some o)(H:i≠n):B[i]? =some o:=by rw[a.at_ i (jU h) H];exact h
end
def GD {a:Nat->Nat->Int}:(jT n a).length=n:=by unfold jT;simp
end Mi
namespace G
open PySem L2 Mi
section
abbrev Sq (t:bM):Prop:=∀r∈t,r.length=t.length
end
def XS (t:bM):Bool:=decide (1<=t.length)&&(decide (t.length<=8)&&((t.all λr=>r.length==t.length&&r.all λv=>decide (0<=v)&&decide (v<(t.length:Int)))&&
 (((List.range t.length).all λa=>(List.range t.length).all λb=>(decide (at2 t a b=0)==decide (a=b))&&decide (at2 t a b=at2 t b a))&&(List.range 8).all λk=>!(t.flatten.any λv=>decide ((k:Int)<v)) || t.flatten.contains (k:Int))))
def O1 (h:XS t=true):qj t:=by
 unfold XS at h;rw[ak,ak,ak,ak,aq,aq]at h;obtain⟨o,N,j,i,p⟩:=h;have rw_:∀r∈t,r.length=t.length/\∀v∈r,0<=v/\v<(t.length:Int):=λr n=>by
  have:=cu.mp j r n
  rw[ak,aK]at this;refine⟨this.1,λv d=>?_⟩
  have:=cu.mp this.2 v d
  rw[ak,aq,aq]at this;exact this
 have at_:∀a b,a<t.length->b<t.length->(decide (at2 t a b=0)==decide (a=b))=true/\at2 t a b=at2 t b a:=λa b c H=>by
  have:=cu.mp (cu.mp i a (cf.mpr c)) b (cf.mpr H)
  rw[ak,aq]at this;exact this
 refine⟨o,N,λr n=>(rw_ r n).1,λr n=>(rw_ r n).2,λa b c H=>?_,λa b c H=>(at_ a b c H).2,λk l=>?_⟩
 ·have:=aK.mp (at_ a b c H).1
  by_cases q:a=b
  ·rw[ax q]at this;exact⟨λ_=>q,λ_=>of_decide_eq_true this⟩
  ·rw[aG q]at this;exact⟨λz=>absurd z (of_decide_eq_false this),λz=>absurd z q⟩
 ·obtain⟨v,d,f⟩:=l
  obtain⟨r,n,e⟩:=List.mem_flatten.mp d
  have:=(rw_ r n).2 v e
  have g:=cu.mp p k (cf.mpr (by lia))
  rw[a3]at g;rcases g with z|z
  ·exfalso
   have:(t.flatten.any λv=>decide ((k:Int)<v))=true:=List.any_eq_true.mpr ⟨v,d,ax f⟩
   rw[this]at z;cases z
  ·exact List.contains_iff_mem.mp z
def Zi (t:bM):((zo t).nr&&true)=true:=by rw[ZK];rfl
noncomputable def gi:W->Bool
 |.int _=>true|_=>false
def QX {m:Ev}{w:W}{ty c:Ty}(h:m ρ A=.ok w A1)(H:j6 w A1=some ty):w9 c m ρ A=.ok (.bl (km ty c)) A1:=by unfold w9;rw[h,zI,H]
def T4 (h:ρ[i]? =some (some (.tup ws))):mQ qe (zZ (zM i)) ρ A=.ok (.int ws.length) A:=by
 rw[jF (yr (w:=.tup ws) (A1:=A) (zh h) rfl)]
 rfl
def E3 (i:Int)(A:Hx):Yb [.int i] A=.ok (.bl true) A:=by unfold Yb Ue;exact qP (w:=.bl true) (A1:=A) rfl
def BK {r:bN}(h:r.length<=8)(A:Hx):Kh [zq r,.int r.length] A=.ok (.bl true) A:=by
 unfold Kh V9;refine qP ?_;dsimp only[Gd,mq];refine qp (qI ?_);refine(QQ (A1:=A) rfl).trans ?_;have e:mQ qe (zZ zH) [some (zq r),iV r.length] A=.ok (.int r.length) A:=by rw[jF (yr (w:=zq r) (A1:=A) (zh rfl) rfl)];unfold qe;rw[ag]
 refine(QQ (A1:=A) ((zA e (zh (i:=1) rfl)).trans ((gL _ _ _).trans (by rw[ax rfl])))).trans ?_
 have E:=Km (cap:=[]) (A:=A) (ρ:=[some (zq r),iV r.length]) (ws:=r.map W.int) (me:=zU Yb (zi zH zu)) (g:=λ_=>.bl true) (zh (i:=0) rfl) (by rw[ag];unfold zT;lia) (λw H=>by obtain⟨i,_,rfl⟩:=cn.mp H;exact(zR (ws:=[.int i]) (A1:=A) rfl).trans (E3 i A))
 exact(jF E).trans (Ku (p:=λ_=>true) λ_ _=>rfl)
def B6 {r:bN}(l:r.length<=8)(H:∀v∈r,0<=v/\v<r.length)(A:Hx):QB [zq r,.int r.length,.int r.length] A=.ok (.bl true) A:=by
 unfold QB Vx;refine qP ?_;dsimp only[WQ,mq];refine qp (qI ?_);refine(QQ (A1:=A) ((zR (ws:=[zq r,.int r.length]) (A1:=A) rfl).trans (BK l A))).trans ?_;have e:=Km (cap:=[2]) (A:=A) (ρ:=[some (zq r),iV r.length,iV r.length]) (ws:=r.map W.int) (me:=wQ JV Ri (qa (.int 0)) (zM 0) (zM 1)) (g:=λ_=>.bl true) (zh (i:=0) rfl) (by rw[ag];unfold zT;lia) (λw a=>by obtain⟨v,h,rfl⟩:=cn.mp a;obtain⟨c,b⟩:=H v h;unfold wQ;rw[zP,zI,zh (i:=0) (w:=.int v) rfl,zI];show R.bind (R.ok (W.bl (decide ((0:Int)<=v))) A) _=_;rw[ax c,zI];dsimp only;rw[zh (i:=1) (w:=.int r.length) rfl,zI];show R.ok (W.bl (decide (v<(r.length:Int)))) A=_;rw[ax b])
 exact(jF e).trans (Ku (p:=λ_=>true) λ_ _=>rfl)
def jj (h:qj t)(A:Hx):P8 [zo t] A=.ok (.bl true) A:=by
 refine wH (A1:=[]) (Zi t) rfl (qP ?_);dsimp only[Uo,mq];obtain⟨d,e,_⟩:=P1 (A:=[]) (N:=t.length) (item:=λi=>.tup [.int i,zq (t.getD i [])]) (I:=λD=>∃g Y y C,D=[some (zo t),g,Y,y,C])
  (j:=yi (zo t) (t.map zq).length) (st:=turn (jD 1 2) (zG (jA (Zo qc) (jD 3 4) (zG (jQ (ZA (zj ju (zj yd qv qD) (zj yd zF qi)) (zj ju (zj zD (zj zD zH qi) zF) qv)) kU zX) zX)) zX))
  (λi n=>YG (K1 n)) (by have:=Yr (A:=[]) (ws:=t.map zq);rw[ag]at this;rw[ag];exact this) (λa f D H=>by
   obtain⟨g,Y,y,C,rfl⟩:=H;have l:=h.sq _ (yY f);obtain⟨o,E,p,Z,r⟩:=P1 (A:=[]) (N:=t.length) (item:=λi=>.tup [.int i,.int ((t.getD a []).getD i 0)]) (I:=λD=>∃y C,D=[some (zo t),iV a,some (zq (t.getD a [])),y,C])
    (j:=yi (zq (t.getD a [])) ((t.getD a []).map W.int).length) (st:=turn (jD 3 4) (zG (jQ (ZA (zj ju (zj yd qv qD) (zj yd zF qi)) (zj ju (zj zD (zj zD zH qi) zF) qv)) kU zX) zX))
    (λi n=>YG (int_at (by lia)))
    (by have:=Yr (A:=[]) (ws:=(t.getD a []).map W.int);rw[ag,l]at this;rw[ag,l];exact this)
    (λb c D H=>by
     obtain⟨y,C,rfl⟩:=H;refine⟨[some (zo t),iV a,some (zq (t.getD a [])),iV b,iV ((t.getD a []).getD b 0)],?_,_,_,rfl⟩;refine(jB rfl).trans ?_;refine(zy ((jX (A1:=[]) ?_).trans rfl)).trans rfl;have x:zj ju (zj yd qv qD) (zj yd zF qi) [some (zo t),iV a,some (zq (t.getD a [])),iV b,iV ((t.getD a []).getD b 0)] []=.ok (.bl false) []:=by
      refine(zA ((zA (zh (i:=4) rfl) (zP (w:=.int 0))).trans (gL _ _ _)) ((zA (zh (i:=1) rfl) (zh (i:=3) rfl)).trans (gL _ _ _))).trans ((L5 _ _ _).trans ?_);have J:(t.getD a []).getD b 0=0↔a=b:=h.dg a b f c
      have:decide ((t.getD a []).getD b 0=0)=decide ((a:Int)=(b:Int)):=by
       by_cases q:a=b
       ·rw[ax (J.mpr q),ax (by lia)]
       ·rw[aG (λz=>q (J.mp z)),aG (by lia)]
      rw[this];simp
     have E:zj ju (zj zD (zj zD zH qi) zF) qv [some (zo t),iV a,some (zq (t.getD a [])),iV b,iV ((t.getD a []).getD b 0)] []=.ok (.bl false) []:=by
      have v:=h.sq _ (yY c);refine(zA ((zA ((zA (zh (i:=0) rfl) (zh (i:=3) rfl)).trans (Jo c)) (zh (i:=1) rfl)).trans kQ) (zh (i:=4) rfl)).trans ((JU _ _ _).trans ?_);have u:(t.getD b []).getD a 0=(t.getD a []).getD b 0:=(h.sy a b f c).symm;rw[u,ax rfl]
      rfl
     exact(K6 x).trans E) t.length 0 [some (zo t),iV a,some (zq (t.getD a [])),y,C] (by lia) ⟨_,_,rfl⟩
   refine⟨[some (zo t),iV a,some (zq (t.getD a [])),p,Z],?_,_,_,_,_,rfl⟩;refine(jB rfl).trans ?_;rw[r]at E;have B:((t.getD a []).map W.int).length=t.length:=by rw[ag,l]
   refine(zy ((jo (Yd (zh (i:=2) rfl))).trans ?_)).trans rfl;show jS (yi (zq (t.getD a [])) ((t.getD a []).map W.int).length) _ ((t.getD a []).map W.int).length 0 _ _=_;rw[B]at E ⊢;exact E) t.length 0 [some (zo t),none,none,none,none] (by lia) ⟨_,_,_,_,rfl⟩
 refine(zy (ρ1:=d) (A1:=[]) ((jo (Yd (zh (i:=0) rfl))).trans ?_)).trans (qp rfl);show jS (yi (zo t) (t.map zq).length) _ (t.map zq).length 0 _ _=_;have B:(t.map zq).length=t.length:=ag ..;rw[B]at e ⊢;exact e
def js (h:qj t)(A:Hx):Ru [zo t] A=.ok (.bl true) A:=by
 have q:=BJ h;have c:t.flatten≠[]:=by
  intro e;have J:=h.n1;have b:=h.sq _ (yY (t:=t) (a:=0) (by lia))
  have:t.getD 0 []=[]:=by
   have:=List.flatten_eq_nil_iff.mp e _ (yY (t:=t) (a:=0) (by lia))
   exact this
  rw[this]at b;simp at b;lia
 obtain⟨z,l,E⟩:=List.exists_cons_of_ne_nil c;refine wH (A1:=[.lst (t.flatten.map W.int)]) (Zi t) rfl (qP ?_);dsimp only[Vr,mq];refine(zy (qg (yW (iY (zh rfl) (by unfold zT;lia))))).trans (qp (qI ?_))
 generalize u:[O.lst (t.flatten.map W.int)]=B;have d:zK (.ref 0) B=some (t.flatten.map W.int):=by rw[<- u];rfl
 have C:mQ wY (zZ zF) [some (zo t),rO 0] B=.ok (.int (yk l z)) B:=by rw[jF (yr (w:=.ref 0) (A1:=B) (zh rfl) d)];unfold wY;rw[Kg,E]
 have H:yk l z∈t.flatten:=by
  rw[E];rcases Uu l z with e|e
  ·rw[e];exact aF ..
  ·exact aA _ e
 have o:0<=yk l z/\yk l z<8:=by
  obtain⟨r,b,v⟩:=List.mem_flatten.mp H
  have:=h.lo r b _ v
  have:=h.n8
  lia
 generalize yk l z=M at C H o;obtain⟨K,rfl⟩:=a5 o.1;have y:=gr (cap:=[1]) (me:=zj LV zH zF) (ρ:=[some (zo t),rO 0]) (A:=B) (N:=K) (j:=jG 0 K) (item:=λi=>.int (0+i)) (g:=λ_=>.bl true)
  ((yG C (by unfold jl;simp;lia)).trans (by rw[aB])) rfl (by unfold zT;lia) (λi f=>j8 f) (j7 (by lia))
  (λi f=>by
   refine(zA (zh (i:=0) (w:=.int (0+i)) rfl) (zh (i:=1) (w:=.ref 0) rfl)).trans ?_;show JA false _ _ _=_;unfold JA;rw[d];dsimp only;have I:(yu (.int (0+(i:Int)))&&(t.flatten.map W.int).all yu)=true:=by
    have:(t.flatten.map W.int).all yu=true:=cu.mpr λw D=>by obtain⟨x,_,rfl⟩:=cn.mp D;rfl
    rw[this];rfl
   rw[ai I];have n:Y0 (.int (0+(i:Int))) (t.flatten.map W.int)=true:=by
    unfold Y0;refine List.any_eq_true.mpr ⟨.int i,cn.mpr ⟨(i:Int),h.fu i ⟨_,H,by lia⟩,rfl⟩,?_⟩
    show((i:Int)==0+(i:Int))=true;rw[Int.zero_add];exact bA _
   rw[n]
   rfl)
 refine(jF y).trans ?_;exact Ku (p:=λ_=>true) λ_ _=>rfl
def kc (h:qj t)(A:Hx):gq [zo t] A=.ok (.bl true) A:=by
 have N:=h.n1;have n:=h.n8;unfold gq Gm;refine qP ?_;dsimp only[Ki,mq];have e:∀b:En,mQ qe (zZ (zM 0)) (some (zo t)::b) A=.ok (.int t.length) A:=λb=>by rw[jF (yr (w:=zo t) (A1:=A) (zh rfl) rfl)];unfold qe;rw[ag]
 refine(zy (ρ1:=[some (zo t),none]) (A1:=A) ((jX (A1:=A) ?_).trans rfl)).trans ?_
 ·refine(K6 (A1:=A) rfl).trans ?_
  refine kP (k:=true) ?_;show wQ JV JV (qa (.int 1)) (mQ qe (zZ (zM 0))) (qa (.int 8)) [some (zo t),none] A=_;unfold wQ;rw[zP,zI,e,zI];show R.bind (R.ok (W.bl (decide ((1:Int)<=t.length))) A) _=_;rw[ax (by lia),zI]
  dsimp only;rw[zP,zI];show R.ok (W.bl (decide ((t.length:Int)<=8))) A=_;rw[ax (by lia)]
 refine(zy (qg (e _))).trans ?_;have E:=Km (cap:=[1]) (A:=A) (ρ:=[some (zo t),iV t.length]) (ws:=t.map zq) (me:=zU QB (zi (zM 0) (zi (zM 1) (zi (zM 1) zu)))) (g:=λ_=>.bl true) (zh (i:=0) rfl) (by rw[ag];unfold zT;lia) (λw c=>by obtain⟨r,H,rfl⟩:=cn.mp c;have l:=h.sq r H;refine(zR (ws:=[zq r,.int t.length,.int t.length]) (A1:=A) rfl).trans ?_;rw[<- l];exact B6 (by lia) (λv a=>by have:=h.lo r H v a;lia) A)
 refine(zy (ρ1:=[some (zo t),iV t.length]) (A1:=A) ((jX (A1:=A) (kP (k:=true) ((jF E).trans (Ku (p:=λ_=>true) λ_ _=>rfl)))).trans rfl)).trans (qp (qI ?_));refine(QQ (A1:=A) ((zR (ws:=[zo t]) (A1:=A) rfl).trans (jj h A))).trans ?_;exact(zR (ws:=[zo t]) (A1:=A) rfl).trans (js h A)
end G
namespace Mi
open PySem L2
theorem Pj:∀(l m:bN),PyData.eqvAll (l.map PyData.int) (m.map PyData.int)=decide (l=m)
 |[],[]=>by simp[PyData.eqvAll]|[],_::_=>by simp[PyData.eqvAll]|_::_,[]=>by simp[PyData.eqvAll]|a::l,b::m=>by simp only[aQ,PyData.eqvAll,Pj l m,PyData.eqv];rw[Bool.eq_iff_iff];simp
def Ky (A B:Hx):Prop:=∀w ty,j6 w A=some ty->j6 w B=some ty
def Ext.ky (x:Ext A B):Ky A B:=λw ty h=>by
 cases w with
 |ref n=>
  unfold j6 at h ⊢;dsimp only at h ⊢;cases e:A[n]? with|none=>rw[e]at h;cases h|some o=>rw[e]at h;rw[x.at e];exact h
 |_=>exact h
def Ky.trans {C:Hx}(a:Ky A B)(b:Ky B C):Ky A C:=λw ty h=>b w ty (a w ty h)
section
def NQ:j6 (.ref A.length) (A++[.lst ws])=some .lst:=by unfold j6;dsimp only;rw[qH]
end
structure Kn (n:Nat)(A B:Hx):Prop where
 kp:Kp n A B
 st:G.qY n B
def _root_.G.qY.ty (h:G.qY n A):j6 (.ref n) A=some .lst:=by obtain⟨c,b,e,_⟩:=h;unfold j6;dsimp only;rw[e]
def _root_.G.qY.lt (h:G.qY n A):n<A.length:=by obtain⟨c,b,e,_⟩:=h;exact jU e
def _root_.G.qY.ext (h:G.qY n A)(x:Ext A B):G.qY n B:=by obtain⟨c,b,e,r⟩:=h;exact⟨c,b,x.at e,r⟩
def Kn.ky (s:G.qY n A)(k:Kn n A B):Ky A B:=λw ty h=>by
 cases w with
 |ref i=>
  by_cases q:i=n
  ·subst q
   rw[s.ty]at h;rw[k.st.ty];exact h
  ·unfold j6 at h ⊢
   dsimp only at h ⊢
   by_cases z:i<A.length
   ·rw[k.kp.at_ i z q];exact h
   ·rw[az (by lia)]at h;cases h
 |_=>exact h
theorem Kn.trans {C:Hx}(a:Kn n A B)(b:Kn n B C):Kn n A C:=⟨a.kp.trans b.kp,b.st⟩
theorem Kn.ext (s:G.qY n A)(x:Ext A B):Kn n A B:=⟨Kp.ext x,s.ext x⟩
end Mi
namespace G
open PySem L2 Mi
def Xo (h:qY n A){m:Int}(c:0<m)(H:m<1000000000000000):∃(r:Nat) (B:Hx),yx [.ref n,.int m] A=.ok (.int r) B/\(r:Int)<m/\Kn n A B/\B.length=A.length:=by obtain⟨r,o,e,a,b,s⟩:=Yv h c H;exact⟨r.toNat,A.set n o,by rw[e,Int.toNat_of_nonneg a],by lia,⟨Kp.set,s⟩,bD ..⟩
def AD {m:Int}(h:qY n A)(d:ρ[0]? =some (rO n))(H:me ρ A=.ok (.int m) A)(c:0<m)(b:m<1000000000000000):∃(r:Nat) (B:Hx),zU yx (zi zH (zi me zu)) ρ A=.ok (.int r) B/\(r:Int)<m/\Kn n A B/\B.length=A.length:=by obtain⟨r,B,e,a⟩:=Xo h c b;exact⟨r,B,(zR (zr (zh d) (zr H zJ))).trans e,a⟩
def ke {ty:Ty}(h:ty≠.tup):km ty .tup=false:=by cases ty<;>first|rfl|exact absurd rfl h
def Qk (q:Hx->W->Prop)(A:Hx)(w:W):Prop:=∀B,Ky A B->q B w
def Qk.mono {q:Hx->W->Prop}{w:W}(k:Ky A B)(h:Qk q A w):Qk q B w:=λC q=>h C (k.trans q)
abbrev Q3 (A:Hx)(w:W):Prop:=Qk (λB w=>gq [w] B=.ok (.bl false) B) A w
def M6 {w:W}{ty:Ty}(h:j6 w A=some ty)(H:ty≠.tup):Q3 A w:=λB k=>by
 unfold gq Gm;refine qP ?_;dsimp only[Ki,mq];have e:w9 .tup zH [some w,none] B=.ok (.bl false) B:=(QX (zh rfl) (k _ _ h)).trans (by rw[ke H])
 have E:ZA (kj (w9 .tup zH)) (kj (wQ JV JV jv (mQ qe (zZ zH)) JW)) [some w,none] B=.ok (.bl true) B:=by
  unfold ZA;rw[kP e,zI]
  rfl
 exact qp ((kh E).trans (qp (qI zP)))
def ET (q:Hx->W->Prop)(D:Hx)(m:Ev)(b:En):Prop:=∀A,Ext D A->∃w a,m b A=.ok w a/\Ext A a/\Qk q a w
def AT (q:Hx->W->Prop)(D:Hx)(a:Ea)(d:En)(k:Nat):Prop:=∀A,Ext D A->∃b c,a d A=.ok b c/\Ext A c/\b.length=k/\∀w∈b,Qk q c w
section
variable {m:Ev}{a:Ea}{k:Nat}{w:W}{q:Hx->W->Prop}{D:Hx}
def NH:AT q D zu ρ 0:=λA _=>⟨[],A,rfl,Ext.refl,rfl,λ_ h=>by cases h⟩
def wC (h:ET q D m ρ)(t:AT q D a ρ k):AT q D (zi m a) ρ (k+1):=λA x=>by
 obtain⟨w,i,E,b,f⟩:=h A x;obtain⟨c,g,e,X,l,d⟩:=t i (x.trans b);refine⟨w::c,g,zr E e,b.trans X,by rw[bc,l],λy H=>?_⟩
 rcases cm.mp H with rfl|H
 ·exact f.mono X.ky
 ·exact d y H
def kl (h:∀A,m ρ A=.ok w A)(H:∀B,q B w):ET q D m ρ:=λA _=>⟨w,A,h A,Ext.refl,λB _=>H B⟩
def gW (h:∀A,m ρ A=.ok w A)(H:∀B,gq [w] B=.ok (.bl false) B:=by intro B;kernel_rfl):ET (λB w=>gq [w] B=.ok (.bl false) B) D m ρ:=kl h H
def kr:ET (λB w=>gq [w] B=.ok (.bl false) B) D LM ρ:=λA _=>⟨.ref A.length,A++[.dct []],rfl,Ext.one,M6 (ty:=.dct) (by unfold j6;dsimp only;rw[qH]) (by decide)⟩
end
section
variable {a:Ea}{k:Nat}{q:Hx->W->Prop}
structure TL (q:Hx->W->Prop)(A:Hx)(r k:Nat)(B:Hx):Prop where
 at_:∃ws,B[r]? =some (.lst ws)/\ws.length=k/\∀w∈ws,Qk q B w
 nw:A.length<=r
 ext:Ext A B
def kv (h:AT q A a ρ k):∃r B,qL a ρ A=.ok (.ref r) B/\TL q A r k B:=by obtain⟨b,d,e,x,l,c⟩:=h A .refl;exact⟨_,_,jI e,⟨b,qH,l,λw H=>(c w H).mono Ext.one.ky⟩,x.len,x.app⟩
def k4 {r j:Nat}(t:TL q A r j B)(h:AT q A a ρ k)(c:ρ[i]? =some (rO r))(f:j+k<=100):∃b C,zj qR (zM i) (qL a) ρ B=.ok (.ref b) C/\TL q A b (j+k) C:=by
 obtain⟨g,e,l,n⟩:=t.at_;obtain⟨U,d,E,X,L,u⟩:=h B t.ext;have x:Ext B (d++[.lst U]):=X.app;refine⟨_,_,(zA (zh c) (jI E)).trans (Kr (x.at e) qH (by unfold zT;lia)),⟨g++U,qH,by rw[ay,l,L],λw H=>?_⟩,?_,(t.ext.trans x).app⟩
 ·rcases cx.mp H with q|q
  ·exact(n w q).mono (x.app).ky
  ·exact(u w q).mono (Ext.one.trans Ext.one).ky
 ·have:=t.ext.len
  have:=x.len
  lia
end
section
variable {N a:Nat}
def Ew (g:t.length<=8)(H:Sq t){m:Ev}{c:Hx}(l:m ρ c=.ok (zo t) B):jN (qy 1 [] (qF m) (zN 0) q9 (ql (jN (zZ zH)))) ρ c=
  .ok (.ref (B.length+t.length)) (B++(t.map λr=>O.lst (r.map W.int))++[O.lst ((List.range t.length).map λi=>W.ref (B.length+i))]):=by
 obtain⟨b,d,j,e,⟨z,v⟩,o,n⟩:=Ya (nl:=1) (cap:=[]) (tw:=zN 0) (ifs:=qa (.bl true)) (em:=ql (jN (zZ zH))) (ρ:=ρ) (A:=c) (N:=t.length)
  (I:=λp b a C=>(∃z,b=[z])/\C=B++((t.take p).map λr=>O.lst (r.map W.int))/\a=(List.range p).map λi=>W.ref (B.length+i)) (QK l) (by simp)
  (λp b a C h ⟨⟨z,u⟩,q,f⟩=>by
   subst u q f;refine⟨zq t[p],[some (zq t[p])],?_,rfl,.inl ⟨_,_,_,_,rfl,Yi (yW (yr (w:=zq t[p]) (ws:=t[p].map W.int) (zh rfl) rfl)) ?_,⟨_,rfl⟩,?_,?_⟩⟩
   ·show some (t.map zq)[p]? =_
    rw[av,ae h];rfl
   ·simp;unfold zT;lia
   ·rw[take_succ h,aN,aR];rfl
   ·rw[bj,aN,ay,ag,bx,Nat.min_eq_left (bJ h)];rfl)
  (λb a C _=>by show some (t.map zq)[t.length]? =_;rw[az (by simp)]) ⟨⟨none,rfl⟩,by simp,by simp⟩
 rw[yW e,o,n,take_length];simp
end
def E8 {c:En}{N:Nat}{u v g:Nat->W}(t:∀i,i<N->j.at_ A i=some (some (.tup [u i,v i])))(H:j.at_ A N=some none)(b:∀i,i<N->me (some (u i)::some (v i)::c) A=.ok (g i) A):
  ∀(f i:Nat)(x y:Option W)(a:List W),i+f=N->a.length+f<=zT->∃ρ,ja j (jD 0 1) (qa (.bl true)) (ql me) f i (x::y::c) a A=.ok (ρ,a++(List.range' i f).map g) A:=by
 intro f
 induction f with
 |zero=>
  intro i x y a h l
  have:i=N:=by lia
  subst this;refine⟨x::y::c,?_⟩;unfold ja;rw[H];simp
 |succ f I=>
  intro i x y a h l;obtain⟨ρ,e⟩:=I (i+1) (some (u i)) (some (v i)) (a++[g i]) (by lia) (by rw[ay,aW];lia)
  refine⟨ρ,?_⟩;rw[ja,t i (by lia)]
  dsimp only;rw[show jD 0 1 (.tup [u i,v i]) (x::y::c)=some (some (u i)::some (v i)::c) from rfl]
  dsimp only[qa];rw[zI];dsimp only;have E:ql me (some (u i)::some (v i)::c) a A=.ok (some (u i)::some (v i)::c,a++[g i]) A:=by unfold ql;rw[b i (by lia),zI,ai (by lia)]
  rw[E,zI];rw[e,aR,range'_succ,aQ]
  rfl
def Pg {N:Nat}{u v g:Nat->W}(f:mi ρ A=.ok j A)(b:j.len=N)(d:N<=1000)(H:∀i,i<N->j.at_ A i=some (some (.tup [u i,v i])))(h:j.at_ A N=some none)
  (l:∀i,i<N->me (some (u i)::some (v i)::cap.map λi=>(ρ[i]?).join) A=.ok (g i) A):qy 2 cap mi (jD 0 1) q9 (ql me) ρ A=.ok ((List.range N).map g) A:=by
 obtain⟨a,e⟩:=E8 (A:=A) (c:=cap.map λi=>(ρ[i]?).join) H h l N 0 none none [] (by lia) (by unfold zT;simp;lia)
 unfold qy;rw[f,zI,b];show R.bind (R.nox (ja j _ _ _ N 0 (none::none::cap.map λi=>(ρ[i]?).join) [] A)) _=_;rw[e,<- range_eq_range',bK]
 rfl
def Z9 {r:R α}{a:α}(h:r=.ok a A):r.nox=.ok a A:=by rw[h];rfl
def Nh {m:Ex}{w:W}(h:m (ws.map some++List.replicate (n-ws.length) none) A=.ok (.rt w) A1):w5 n m ws A=.ok w A1:=by unfold w5;rw[h];rfl
def UQ {m:Ex}(h:m (ws.map some++List.replicate (n-ws.length) none) A=.ok (.nx ρ) A1):w5 n m ws A=.ok .non A1:=by unfold w5;rw[h];rfl
def gu {M a:Ex}(h:M ρ A=.exc x A1):zG M a ρ A=.exc x A1:=by unfold zG;rw[h,UG]
def U3 {m:Ev}(h:m ρ A=.exc x A1):wz m ρ A=.exc x A1:=by unfold wz;rw[h,UG]
def QJ {m:Ex}(h:m (ws.map some++List.replicate (n-ws.length) none) A=.exc x A1):w5 n m ws A=.exc x A1:=by unfold w5;rw[h];rfl
def Bk {m M:Ev}{u v:List W}(h:m ρ A=.ok (.tup u) A)(H:M ρ A=.ok (.tup v) A):gC m M ρ A=.ok (wq (.tup u) (.tup v) u.length) A:=by
 unfold gC;rw[h,zI,H,zI]
 rfl
def EZ {a:Ea}{x y:List W}{r:Nat}{u e:Option W}(H:A[r]? =some (.lst x))(h:a [u,e,none,rO r] A=.ok y A)(l:x.length+y.length<=100):
  qu 3 (zj qR qi (qL a)) [u,e,none,rO r] A=.ok (.nx [u,e,none,rO (A.length+1)]) (A++[.lst y]++[.lst (x++y)]):=by
 refine(qg ((zA (zh (i:=3) rfl) (jI h)).trans (Kr (jq H) qH (by unfold zT;lia)))).trans ?_
 rw[ay,aW]
 rfl
def BO {a:Ea}{x y zs:List W}{L:Hx}{j:Nat}{u e:Option W}(c:L[j]? =some (.lst x))(b:∀m A,a [u,e,none,m] A=.ok y A)(H:x.length+y.length<=100)(h:x++y=zs):
  qu 3 (zj qR qi (qL a)) [u,e,none,rO (A.length+j)] (A++L)=.ok (.nx [u,e,none,rO (A.length+(L.length+1))]) (A++(L++[.lst y,.lst zs])):=by
 have d:(A++L)[A.length+j]? =some (.lst x):=by rw[ar (by lia),show A.length+j-A.length=j by lia];exact c
 rw[EZ d (b _ _) H,h,ay,aR,aR,Nat.add_assoc]
 rfl
noncomputable def ZF (i a n:Nat):List W:=(List.range' a n).map λk=>W.bl (decide (k=i))
def GU {f:Fn}{u:List W}{k:Nat}(n:qN u=true)(h:f u []=.ok (.ref k) A1)(H:A1[k]? =some (.lst ws))(w:qN ws=true):iso f u A=.ok (.ref A.length) (A++[.lst ws]):=by unfold iso;rw[ai n,h];dsimp only;rw[H];dsimp only;rw[ai w]
end G
namespace Mi
open PySem L2
section
variable {c:En}{f:Nat}{x:Option W}{w y:W}{acc:List W}{m:Ev}
def Jb (h:n<1000000):jl (n:Int)=true:=by unfold jl;rw[ak,aq,aq];lia
def Dh (h:j.at_ A i=some none):ja j (zN 0) (qa (.bl true)) (ql me) f i ρ acc A=.ok (ρ,acc) A:=by cases f<;>(unfold ja;rw[h])
def DP (h:j.at_ A i=some (some w))(a:me (some w::c) A=.ok y A1)(H:acc.length<zT):ja j (zN 0) (qa (.bl true)) (ql me) (f+1) i (x::c) acc A=ja j (zN 0) (qa (.bl true)) (ql me) f (i+1) (some w::c) (acc++[y]) A1:=by
 rw[ja,h];dsimp only[zN,List.set,qa];rw[zI];dsimp only;have e:ql me (some w::c) acc A=.ok (some w::c,acc++[y]) A1:=by unfold ql;rw[a,zI,ai H]
 rw[e,zI]
def NG (h:m ρ A=.ok (.ref n) A1)(H:A1[n]? =some (.lst ws)):qF m ρ A=.ok ⟨λA i=>(zK (.ref n) A).map λws=>ws[i]?,ws.length⟩ A1:=by
 unfold qF YM;rw[h,zI];have e:zK (.ref n) A1=some ws:=by unfold zK;dsimp only;rw[H]
 rw[e]
def YF (h:A[n]? =some (.lst ws)):((zK (.ref n) A).map λws=>ws[i]?)=some ws[i]?:=by
 have e:zK (.ref n) A=some ws:=by unfold zK;dsimp only;rw[h]
 rw[e];rfl
def PX {g:W->Option PyData}{d:PyData}{D:List PyData}(h:g w=some d)(r:yy g ws=some D):yy g (w::ws)=some (d::D):=by unfold yy;rw[h,r]
def GZ {k:Nat}{v:Int}(h:A[n]? =some (.lst [.int v])):qC A (k+1) (.ref n)=some (.list [.int v]):=by
 unfold qC;have e:zK (.ref n) A=some [.int v]:=by unfold zK;dsimp only;rw[h]
 rw[e];cases k<;>rfl
def Og {k:Nat}{d:List PyData}(h:A[n]? =some (.lst ws))(H:yy (qC A k) ws=some d):qC A (k+1) (.ref n)=some (.list d):=by
 unfold qC;have e:zK (.ref n) A=some ws:=by unfold zK;dsimp only;rw[h]
 rw[e];dsimp only;rw[H]
 rfl
def MO {a b:W}{d:PyData}(c:qC A 8 a=some d)(H:qC A 8 b=some d)(h:PyData.eqv d d=true):ju a b A=.ok (.bl false) A:=by
 show wX true a b A=_;unfold wX;rw[c,H];dsimp only;rw[ai rfl,h]
 rfl
end
end Mi
namespace G
open PySem L2 Mi
section
def k6 (a:A[0]? =some (.ro (ns.map W.int)))(k:Nat):∃x:Int,VP [.ref 0,.int k] A=.ok (.int x) A:=by
 have H:zK (.ref 0) A=some (ns.map W.int):=by unfold zK;dsimp only;rw[a]
 have l:mQ qe (zZ zH) [rO 0,iV k] A=.ok (.int ns.length) A:=by rw[jF (yr (w:=.ref 0) (A1:=A) (zh rfl) H)];unfold qe;rw[ag]
 have e:zj Ri zF (mQ qe (zZ zH)) [rO 0,iV k] A=.ok (.bl (decide ((k:Int)<ns.length))) A:=(zA (zh (w:=.int k) rfl) l).trans rfl
 by_cases h:k<ns.length
 ·refine⟨ns[k],qP ?_⟩
  dsimp only[WY,mq];rw[ax (by lia)]at e
  refine qp ((kh e).trans (qp (qI ?_)));refine(zA (x:=.ref 0) (y:=.int k) (A1:=A) (A2:=A) (zh rfl) (zh rfl)).trans ?_;unfold zD;rw[H];dsimp only;rw[GW (v:=.int ns[k]) (by rw[av,ae h];rfl)]
 ·refine⟨0,qP ?_⟩
  dsimp only[WY,mq];rw[aG (by lia)]at e
  exact(zy ((jX e).trans rfl)).trans rfl
def AB (H:A[0]? =some (.ro (ns.map W.int)))(k:Nat):∃o,J8 [.ref 0,.int k] A=.ok (.ref A.length) (A++[o])/\qY A.length (A++[o]):=by
 obtain⟨x,e⟩:=k6 H k;have a:qu 2 (zU VP (zi zH (zi zF zu))) [rO 0,iV k,none] A=.ok (.nx [rO 0,iV k,iV x]) A:=by refine(qg (w:=.int x) (A1:=A) ?_).trans rfl;rw[zR (ws:=[.ref 0,.int k]) (A1:=A) rfl];exact e
 have E:zj L7 qc (zj YI SV (qa (.int 18))) [rO 0,iV k,iV x] A=.ok (.bl (decide ((1000000000000000000:Int)<=x))) A:=(zA (x:=.int x) (y:=.int 1000000000000000000) (A1:=A) (A2:=A) (zh rfl) rfl).trans rfl
 by_cases h:(1000000000000000000:Int)<=x
 ·refine⟨.lst [.int (x-1000000000000000000),.bl true],qP ?_,x-1000000000000000000,true,qH,by lia,λz=>nomatch z⟩
  dsimp only[W6,mq];rw[ax h]at E;refine(zy a).trans (qp ((kh E).trans (qp (qI (jI ?_)))))
  rfl
 ·refine⟨.lst [.int (x%2147483647),.bl false],qP ?_,x%2147483647,false,qH,bw _ (by decide),λ_=>bh _ (by decide)⟩
  dsimp only[W6,mq];rw[aG h]at E;refine(zy a).trans ((zy ((jX E).trans rfl)).trans (qp (qI (jI ?_))));refine zr (A1:=A) (A2:=A) ((zA (x:=.int x) (y:=.int 2147483647) (A1:=A) (A2:=A) (zh rfl) rfl).trans (Qf (by decide))) rfl
variable {w:W}
def lb (h:qj t)(A:Hx):gq [zo t] A=.ok (.bl true) A:=kc h A
def Ai (h:Q3 A w):gq [w] A=.ok (.bl false) A:=h A λ_ _ z=>z
def PY (h:qj t)(A:Hx):VE [zo t] A=.ok .non A:=by refine UQ (ρ:=[some (zo t)]) ?_;dsimp only[WV];refine(zy (ρ1:=[some (zo t)]) (A1:=A) ((jX (A1:=A) ?_).trans rfl)).trans rfl;exact Z9 (kP (k:=true) ((zR (ws:=[zo t]) (A1:=A) rfl).trans (lb h A)))
def DN (h:Q3 A w):VE [w] A=.exc "NoTable" A:=by refine QJ ?_;dsimp only[WV];exact gu ((kh (A1:=A) (Z9 (kP (k:=false) ((zR (ws:=[w]) (A1:=A) rfl).trans (Ai h))))).trans (gu rfl))
variable {a b k:Nat}
def lg {ty:Ty}(h:j6 w A=some ty):(km ty .int&&!km ty .bl)=gi w:=by
 cases w with
 |ref k=>
  unfold j6 at h;dsimp only at h
  split at h
  ·cases h;rfl
  ·cases h;rfl
  ·cases h
 |clo _ _ _=>cases h|xc _=>cases h|fn _=>cases h|_=>cases h;rfl
def K9 {a b:Ev}{p q:Bool}(h:a ρ A=.ok (.bl p) A)(H:b ρ A=.ok (.bl q) A):kR a b ρ A=.ok (.bl (p&&q)) A:=by
 cases p with|true=>exact(QQ h).trans H|false=>exact Ys h
def O3 {ty:Ty}(h:j6 w A=some ty):Yb [w] A=.ok (.bl (gi w)) A:=by unfold Yb Ue;dsimp only[Ud,mq];refine qP (qp (qI ((K9 (QX (zh rfl) h) (kP (QX (zh rfl) h))).trans ?_)));rw[lg h]
def lh (h:qj t)(a:ρ[i]? =some (some (zo t))):mQ wY (qy 1 [] (qF (zM i)) (zN 0) q9 (ql (mQ wY (zZ zH)))) ρ A=.ok (.int (qh t-1)) A:=by
 have n:=h.n8;have e:=GG (cap:=[]) (A:=A) (ρ:=ρ) (o:=t) (f:=zq) (m:=zM i) (me:=mQ wY (zZ zH)) (G:=λr=>.int (ko r)) (zh a) (by unfold zT;lia) (λr H=>(jF (yr (w:=zq r) (ws:=r.map W.int) (A1:=A) (zh rfl) rfl)).trans (UM (h.row_ne H)))
 have E:(t.map λr=>W.int (ko r))=(t.map ko).map W.int:=by rw[aY];rfl
 rw[E]at e;refine((jF e).trans (UM h.map_ne)).trans ?_
 have:qh t-1=ko (t.map ko):=by unfold qh;lia
 rw[this]
def KJ (h:qj t)(A:Hx):W0 [zo t] A=.ok (.int (qh t)) A:=by
 refine wH (A1:=[]) (Zi t) rfl (qP ?_);dsimp only[VU,mq];refine qp (qI ((zA (lh h rfl) zP).trans ?_));show R.ok (W.int (qh t-1+1)) []=_
 congr 2
 lia
def len_tab (h:ρ[i]? =some (some (zo t))):mQ qe (zZ (zM i)) ρ A=.ok (.int t.length) A:=by
 have:=T4 (ws:=t.map zq) (A:=A) h
 rw[ag]at this;exact this
end
section
variable {N b:Nat}
def AN {g:Nat->Int}{k:Int}(h:b<N):((List.range N).map λj=>W.int (g j)).set b (.int k)=(List.range N).map λj=>W.int (if j=b then k else g j):=by
 apply ext_getElem?
 intro i
 by_cases H:i<N
 ·by_cases q:b=i
  ·subst q
   rw[aw (by simpa using H),av,aU H]
   simp
  ·rw[au q,av,av,aU H]
   simp[Ne.symm q]
 ·rw[az (by simp;lia),az (by simp;lia)]
end
structure LC (K:Nat)(μ:Nat->Nat->Int)(C:Hx):Prop where
 top:C[2 * K]? =some (.lst ((List.range K).map λi=>W.ref (2 * i+1)))
 row:∀i,i<K->C[2 * i+1]? =some (.lst ((List.range K).map λj=>W.int (μ i j)))
section
variable {K a b j:Nat}{μ:Nat->Nat->Int}{C:Hx}
def LC.put (h:LC K μ C)(f:i<K)(e:j<K)(k:Int):∃b,gD (.ref (2 * i+1)) (.int j) (.int k) C=.ok () b/\LC K (JH μ i j k) b:=by
 have r:=h.row i f;have H:=jU r;refine⟨_,i9 r (by simp;lia),?_,λc d=>?_⟩
 ·rw[au (by lia)];exact h.top
 ·by_cases q:c=i
  ·subst q
   rw[aw H,AN e]
   congr 3
   funext a
   unfold JH
   by_cases z:a=j
   ·rw[ai z,ai ⟨rfl,z⟩]
   ·rw[aj z,aj (by rintro⟨_,w⟩;exact z w)]
  ·rw[au (by lia),h.row c d]
   congr 3
   funext a
   unfold JH;rw[aj (by rintro⟨w,_⟩;exact q w)]
def LC.aug (h:LC K μ C){mo mi:Ev}(o:mo ρ C=.ok (.ref (2 * i+1)) C)(b:mi ρ C=.ok (.int j) C)(a:i<K)(H:j<K):∃c,Xr mo mi jv ρ C=.ok (.nx ρ) c/\LC K (JH μ i j (μ i j+1)) c:=by
 obtain⟨c,e,l⟩:=h.put a H (μ i j+1);refine⟨c,?_,l⟩;unfold Xr;rw[o,zI,b,zI];dsimp only;rw[ai (by lia),h.row i a]
 dsimp only;rw[aB,av,aU H];show R.bind (gD (.ref (2 * i+1)) (.int j) (.int (μ i j+1)) C) _=_;rw[e,zI]
def LC.ix (h:LC K μ C){m M:Ev}(b:m ρ C=.ok (.ref (2 * K)) C)(H:M ρ C=.ok (.int i) C)(a:i<K):zj zD m M ρ C=.ok (.ref (2 * i+1)) C:=
 (zA b H).trans (wa h.top (by rw[av,aU a];rfl))
def rep1 (w:W):∀n:Nat,(List.replicate n [w]).flatten=(List.range n).map λ_=>w:=λn=>by
 rw[List.map_const',aI]
 induction n with|zero=>rfl|succ n i=>rw[ba,a8,i];rfl
def Bo (n:K<=8){x0 x1 x2 x4:Option W}{l:List (Option W)}:∃C,jN (qy 1 [3] (jM qi) (zN 0) q9 (ql (zj qd (qL (zi qD zu)) zF))) (x0::x1::x2::iO K::x4::l) []=.ok (.ref (2 * K)) C/\LC K (λ_ _=>0) C:=by
 have r:=yG (m:=zM 3) (ρ:=x0::x1::x2::iO K::x4::l) (A:=[]) (k:=(K:Int)) rfl (ZI (by lia))
 rw[aB]at r;obtain⟨g,o,B,e,_,H,h⟩:=Ya (nl:=1) (cap:=[3]) (tw:=zN 0) (ifs:=qa (.bl true)) (em:=ql (zj qd (qL (zi qD zu)) zF)) (N:=K)
  (I:=λi p o B=>(∃y,p=[y,iO K])/\(B.length=2 * i/\∀c,c<i->B[2 * c+1]? =some (.lst ((List.range K).map λj=>W.int 0)))/\o=(List.range i).map λc=>W.ref (2 * c+1)) r rfl
  (λi p o B b ⟨⟨y,a⟩,⟨d,H⟩,h⟩=>by
   subst a h;refine⟨_,_,j8 b,rfl,.inl ⟨B,_,_,B++[.lst [.int 0]]++[.lst ((List.range K).map λj=>W.int 0)],rfl,Yi (y:=.ref (2 * i+1)) ?_ (by rw[ag,aI];unfold zT;lia),⟨_,rfl⟩,⟨by simp;lia,λc f=>?_⟩,by rw[bj,aN];rfl⟩⟩
   ·refine(zA (jI (zr zP zJ)) (zh (i:=1) (w:=.int K) rfl)).trans ?_
    unfold qd;dsimp only;rw[qH];dsimp only;rw[ai (by rw[ZI (by lia),aB];simp;unfold zT;lia),aB,ay,d,rep1]
    rfl
   ·by_cases q:c=i
    ·subst q
     rw[ar (by simp;lia)]
     simp[d]
    ·rw[ah (by simp;lia),ah (by lia)]
     exact H c (by lia))
  (λp o B _=>j7 (by lia)) ⟨⟨none,rfl⟩,⟨rfl,λc f=>absurd f (Nat.not_lt_zero _)⟩,rfl⟩
 subst h;refine⟨B++[.lst ((List.range K).map λc=>W.ref (2 * c+1))],?_,?_,λi b=>?_⟩
 ·rw[yW e,H.1]
 ·rw[<- H.1];exact qH
 ·exact jq (H.2 i b)
def BN {m:Ev}{k:Nat}(h:m ρ A=.ok (.ref k) A)(a:A[k]? =some (.lst ws))(l:ws.length<=zT){g:W->W}(b:∀w∈ws,me (some w::cap.map λi=>(ρ[i]?).join) A=.ok (g w) A):
  qy 1 cap (qF m) (zN 0) q9 (ql me) ρ A=.ok (ws.map g) A:=by
 have e:=gr (cap:=cap) (me:=me) (ρ:=ρ) (A:=A) (N:=ws.length) (item:=λi=>ws.getD i .non) (g:=λi=>g (ws.getD i .non)) (Z7 h a) rfl l
  (λi H=>(kD a).trans (by rw[ae H,aa,ae H];rfl))
  ((kD a).trans (by rw[az (ao _)]))
  (λi H=>by
   have:ws.getD i .non=ws[i]:=by rw[aa,ae H];rfl
   rw[this];exact b _ (aL H))
 rw[e]
 congr 1
 apply a9
 ·simp
 ·intro i d c
  have H:i<ws.length:=by simpa using c
  simp[aa,ae H]
theorem LC.tup (h:LC K μ C)(d:K<=8){i:Nat}(b:ρ[i]? =some (rO (2 * K))):mQ Zp (qy 1 [] (qF (zM i)) (zN 0) q9 (ql (mQ Zp (zZ zH)))) ρ C=.ok (zo (jT K μ)) C:=by
 have e:=BN (cap:=[]) (ws:=(List.range K).map λi=>W.ref (2 * i+1)) (me:=mQ Zp (zZ zH)) (zh b) h.top (by simp;unfold zT;lia) (g:=λw=>match w with|.ref n=>(match C[n]? with|some (.lst ws)=>.tup ws|_=>.non)|_=>.non) (λw f=>by obtain⟨c,a,rfl⟩:=cn.mp f;have H:=h.row c (cf.mp a);dsimp only;rw[H];exact KR (yr (w:=.ref (2 * c+1)) (A1:=C) (zh rfl) (by unfold zK;dsimp only;rw[H])))
 rw[KR e]
 congr 1
 unfold zo jT;rw[aY,aY]
 congr 1
 refine bo λc a=>?_;have H:=h.row c (cf.mp a);show(match C[2 * c+1]? with|some (.lst ws)=>W.tup ws|_=>.non)=zq ((List.range K).map (μ c))
 rw[H];unfold zq;rw[aY]
 rfl
noncomputable def shr (t:bM)(a b:Nat):Nat->Nat->Nat->Int
 |0=>λ_ _=>0|n+1=>JH (shr t a b n) (at2 t a n).toNat (at2 t b n).toNat (shr t a b n (at2 t a n).toNat (at2 t b n).toNat+1)
def jh (t:bM)(K a b:Nat):bM:=jT K (shr t a b t.length)
def Jr (d:qj t)(c:qh t=(K:Int))(H:a<t.length)(h:b<t.length):((at2 t a b).toNat:Int)=at2 t a b/\(at2 t a b).toNat<K:=by have f:=YA d H h;have e:=KP d H h;lia
def Ui (x:qj t)(f:qh t=(K:Int))(c:a<t.length)(H:b<t.length)(A:Hx):J2 [zo t,.int a,.int b] A=.ok (zo (jh t K a b)) A:=by
 have J:=x.n8;have kb:=kg x;have d:((t.getD a []).map W.int).length=t.length:=by rw[ag,x.sq _ (yY c)]
 have u:((t.getD b []).map W.int).length=t.length:=by rw[ag,x.sq _ (yY H)]
 obtain⟨C,v,p⟩:=Bo (K:=K) (by lia) (x0:=some (zo t)) (x1:=iO a) (x2:=iO b) (x4:=none) (l:=[none,none])
 obtain⟨g,B,E,L,Y,y,h⟩:=ye (j:=wq (.tup ((t.getD a []).map W.int)) (.tup ((t.getD b []).map W.int)) ((t.getD a []).map W.int).length) (st:=turn (jD 5 6) (zG (Xr (zj zD qv jw) yB jv) zX)) (N:=t.length)
  (I:=λn D B=>LC K (shr t a b n) B/\∃Y y,D=[some (zo t),iO a,iO b,iO K,rO (2 * K),Y,y])
  (λn D B z ⟨l,Y,y,h⟩=>by
   subst h;obtain⟨o,q⟩:=Jr x f c z;obtain⟨i,Q⟩:=Jr x f H z;obtain⟨w,e,r⟩:=l.aug (ρ:=[some (zo t),iO a,iO b,iO K,rO (2 * K),iV (at2 t a n),iV (at2 t b n)]) (mo:=zj zD qv jw) (mi:=zM 6) (l.ix (zh rfl) (zh (by rw[o];rfl)) q) (zh (by rw[i];rfl)) q Q
   refine⟨.tup [.int (at2 t a n),.int (at2 t b n)],_,w,?_,(jB rfl).trans ((zy e).trans qx),r,_,_,rfl⟩;show some (zip2 ((t.getD a []).map W.int)[n]? ((t.getD b []).map W.int)[n]?)=_;rw[int_at (by rw[x.sq _ (yY c)];exact z),int_at (by rw[x.sq _ (yY H)];exact z)]
   rfl)
  (λD B _=>by
   show some (zip2 ((t.getD a []).map W.int)[t.length]? ((t.getD b []).map W.int)[t.length]?)=_;rw[az (by lia),az (by lia)]
   rfl) t.length 0 [some (zo t),iO a,iO b,iO K,rO (2 * K),none,none] C (by lia) ⟨p,_,_,rfl⟩
 subst h;refine wH (A1:=B) (Zi t) (ZK _) (qP ?_);dsimp only[VN,mq];refine(zy (qg ((zR (zr (zh rfl) zJ)).trans ((KJ x []).trans (by rw[f]))))).trans ?_
 refine(zy (qg v)).trans ?_;refine(zy (ρ1:=[some (zo t),iO a,iO b,iO K,rO (2 * K),Y,y]) (A1:=B) ((jo (Bk ((zA (zh rfl) (zh rfl)).trans (Jo c)) ((zA (zh rfl) (zh rfl)).trans (Jo H)))).trans ?_)).trans (qp (qI (L.tup (by lia) rfl)))
 have:(wq (.tup ((t.getD a []).map W.int)) (.tup ((t.getD b []).map W.int)) ((t.getD a []).map W.int).length).len=t.length:=d
 rw[this];exact E
variable {w:W}
def U7 {m:Ev}{a:En}{w:W}(h:m ρ A=.ok w A1)(H:tw w ρ=some a):Q0 m tw ρ A=.ok (.nx a) A1:=by unfold Q0;rw[h,zI,H]
end
def g7 (t:bM)(a b:Nat):List (Int×Int):=(List.range t.length).map λc=>(at2 t a c,at2 t b c)
def jK (t:bM):Prop:=∀a b c e,a<t.length->b<t.length->c<t.length->e<t.length->at2 t a b=at2 t c e->(g7 t a b).Perm (g7 t c e)
def ZS (t:bM)(k:Int):Nat:=((List.range (t.length * t.length)).find? λm=>decide (at2 t (m/t.length) (m%t.length)=k)).getD 0
def UW (t:bM):Bool:=(List.range t.length).all λa=>(List.range t.length).all λb=>let m:=ZS t (at2 t a b);(g7 t a b).isPerm (g7 t (m/t.length) (m%t.length))
def EM (h:UW t=true):jK t:=λa b c e j i g n f=>by unfold UW at h;rw[aZ]at h;have l:=h a (cf.mpr j);rw[aZ]at l;have o:=List.isPerm_iff.mp (l b (cf.mpr i));have d:=h c (cf.mpr g);rw[aZ]at d;have H:=List.isPerm_iff.mp (d e (cf.mpr n));rw[<- f]at H;exact o.trans H.symm
def Ny {p:bS}(a:p.Nodup){u v:Nat}(H:u<=p.length)(h:v<=p.length)(e:(ji p).getD u 0=(ji p).getD v 0):u=v:=by
 by_cases c:u=0
 ·by_cases b:v=0
  ·lia
  ·exfalso
   subst c;rw[QL (v:=v) (by lia) h]at e
   have:(ji p).getD 0 0=0:=rfl
   lia
 ·by_cases b:v=0
  ·exfalso
   subst b;rw[QL (v:=u) (by lia) H]at e
   have:(ji p).getD 0 0=0:=rfl
   lia
  ·rw[QL (by lia) H,QL (by lia) h]at e
   have E:p[u-1]'(by lia)=p[v-1]'(by lia):=by lia
   have:=(getElem_inj a).mp E
   lia
section
variable {p o:bS}
def OT (H:o.Perm (List.range t.length)){a b:Nat}(d:a<t.length)(c:b<t.length):at2 (wI t p o) a b=(ji p).getD (at2 t (o.getD a 0) (o.getD b 0)).toNat 0:=by
 have h:o.length=t.length:=by rw[H.length_eq,aI]
 unfold at2 wI;rw[aa (l:=List.map _ o),av,ae (by lia)]
 show(List.map _ o).getD b 0=_;rw[aa,av,ae (by lia)]
 show(ji p).getD (at2 t _ _).toNat 0=_;unfold at2;rw[aa (l:=o) (i:=a),ae (by lia),aa (l:=o) (i:=b),ae (by lia)]
 rfl
def Dp {u v:bM}{f:Int->Int}(p:u.length=v.length)(n:o.Perm (List.range v.length))(j:∀a b,a<v.length->b<v.length->at2 u a b=f (at2 v (o.getD a 0) (o.getD b 0)))
  (y:∀a b c e,a<v.length->b<v.length->c<v.length->e<v.length->f (at2 v a b)=f (at2 v c e)->at2 v a b=at2 v c e)(s:jK v):jK u:=by
 have l:o.length=v.length:=by rw[n.length_eq,aI]
 have h:∀i,i<v.length->o.getD i 0<v.length:=λi w=>by
  rw[aa,ae (by lia)]
  exact cf.mp (n.mem_iff.mp (aL _))
 have r:∀a b,a<v.length->b<v.length->(g7 u a b).Perm ((g7 v (o.getD a 0) (o.getD b 0)).map λq=>(f q.1,f q.2)):=λa b g d=>by
  unfold g7;rw[p,aY];have t:(List.range v.length).map (λc=>(at2 u a c,at2 u b c))=(List.range v.length).map λc=>(f (at2 v (o.getD a 0) (o.getD c 0)),f (at2 v (o.getD b 0) (o.getD c 0))):=bo λc H=>by rw[j a c g (cf.mp H),j b c d (cf.mp H)]
  rw[t];have E:=Y9 o 0 λc=>(f (at2 v (o.getD a 0) c),f (at2 v (o.getD b 0) c));rw[l]at E;rw[<- E];exact n.map _
 intro a b c e g d H x q;rw[p]at g d H x;rw[j a b g d,j c e H x]at q
 have:=s _ _ _ _ (h a g) (h b d) (h c H) (h e x) (y _ _ _ _ (h a g) (h b d) (h c H) (h e x) q)
 exact(r a b g d).trans ((this.map _).trans (r c e H x).symm)
def Eu (h:qj t)(g:p.Perm (List.range (qh t-1).toNat))(i:o.Perm (List.range t.length))(s:jK t):jK (wI t p o):=by
 have l:p.length=(qh t-1).toNat:=by rw[g.length_eq,aI]
 have kb:=kg h;have n:p.Nodup:=(g.nodup_iff).mpr nodup_range;have j:∀a b,a<t.length->b<t.length->(at2 t a b).toNat<=p.length/\((at2 t a b).toNat:Int)=at2 t a b:=λa b d H=>by
  have:=YA h d H
  have:=KP h d H
  lia
 refine Dp (f:=λv=>(ji p).getD v.toNat 0) (PN h g i).2 i (λa b d H=>OT i d H) (λa b c e d H r w q=>?_) s;have u:=j _ _ d H;have K:=j _ _ r w
 have:=Ny n u.1 K.1 q
 lia
variable {a b c e K:Nat}
theorem Ye (e:qj t)(H:a<t.length)(h:b<t.length):∀n,n<=t.length->∀i j:Nat,shr t a b n i j=((((List.range n).map λc=>(at2 t a c,at2 t b c)).count ((i:Int),(j:Int)):Nat):Int)
 |0,_,i,j=>rfl|n+1,hn,i,j=>by
  have I:=Ye e H h n (by lia)
  have f:=(YA e H (show n<t.length by lia)).1
  have K:=(YA e h (show n<t.length by lia)).1
  rw[bj,aN,List.count_append,List.map_singleton,List.count_singleton];show JH (shr t a b n) (at2 t a n).toNat (at2 t b n).toNat (shr t a b n (at2 t a n).toNat (at2 t b n).toNat+1) i j=_;unfold JH
  by_cases q:i=(at2 t a n).toNat/\j=(at2 t b n).toNat
  ·rw[ai q,<- q.1,<- q.2,I,ai (by rw[aK];ext<;>simp<;>lia)]
   lia
  ·rw[aj q,I,aj (by
    rw[aK];intro z;injection z with d Z
    exact q ⟨by lia,by lia⟩)]
   lia
def Om (f:qj t)(s:jK t)(d:a<t.length)(H:b<t.length)(h:c<t.length)(g:e<t.length)(q:at2 t a b=at2 t c e):jh t K a b=jh t K c e:=by
 unfold jh jT;refine bo λi _=>bo λj _=>?_;rw[Ye f d H _ (ao _),Ye f h g _ (ao _)]
 have:=(s a b c e d H h g q).count_eq ((i:Int),(j:Int))
 unfold g7 at this;rw[this]
end
def Gh {st:W->Ex}{N:Nat}{I:Nat->En->Hx->Prop}{Q:W->Hx->Prop}
  (H:∀i l A,i<N->I i l A->∃w,j.at_ A i=some (some w)/\((∃ρ1 A1,st w l A=.ok (.nx ρ1) A1/\I (i+1) ρ1 A1)∨∃r A1,st w l A=.ok (.rt r) A1/\Q r A1))(d:∀l A,I N l A->j.at_ A N=some none):
  ∀(f i:Nat)(l:En)(A:Hx),i+f=N->I i l A->(∃a A',jS j st f i l A=.ok (.nx a) A'/\I N a A')∨∃r A',jS j st f i l A=.ok (.rt r) A'/\Q r A':=by
 intro f
 induction f with
 |zero=>
  intro i l A h b
  have:i=N:=by lia
  subst this;exact .inl ⟨l,A,Gr (d _ _ b),b⟩
 |succ f g=>
  intro i l A h b;obtain⟨w,o,n|n⟩:=H i l A (by lia) b
  ·obtain⟨ρ1,A1,n,c⟩:=n
   rcases g (i+1) ρ1 A1 (by lia) c with ⟨a,A',e,q⟩|⟨r,A',e,q⟩
   ·exact .inl ⟨a,A',(Jh o n).trans e,q⟩
   ·exact .inr ⟨r,A',(Jh o n).trans e,q⟩
  ·obtain⟨r,A1,n,c⟩:=n
   refine .inr ⟨r,A1,?_,c⟩;unfold jS;rw[o];dsimp only;rw[n]
   rfl
noncomputable def YO (r:bN):PyData:=.tuple (r.map .int)
def SH (t:bM):PyData:=.tuple (t.map YO)
theorem GJ {f:W->Option PyData}{g:α->W}{h:α->PyData}(e:∀a,f (g a)=some (h a)):∀l:List α,yy f (l.map g)=some (l.map h)
 |[]=>rfl|a::l=>by
  rw[aQ,yy,e a,GJ e l]
  rfl
def lj (A:Hx)(n:Nat)(r:bN):qC A (n+1) (zq r)=some (YO r):=by
 show(yy (qC A n) (r.map W.int)).map PyData.tuple=_;rw[GJ (h:=PyData.int) (λi=>by cases n<;>rfl)]
 rfl
def OY (A:Hx)(n:Nat)(t:bM):qC A (n+2) (zo t)=some (SH t):=by
 show(yy (qC A (n+1)) (t.map zq)).map PyData.tuple=_;rw[GJ (h:=YO) (lj A n)]
 rfl
section
variable {k:Nat}{w:W}{kvs:List (Key×W)}
theorem Oz {k:Key}{w:W}:∀{K:List (Key×W)},yN k K=some w->(k,w)∈K
 |[],h=>by cases h|(j,u)::r,h=>by
  have h:(if j=k then some u else yN k r)=some w:=h
  by_cases q:j=k
  ·rw[ai q]at h;cases h;subst q;exact aF ..
  ·rw[aj q]at h;exact aA _ (Oz h)
def NF {f:Fn}{u:List W}{k:Nat}(n:qN u=true)(h:f u []=.ok (.ref k) A1)(H:A1[k]? =some (.dct kvs))(w:qN (kvs.map (·.2))=true):iso f u A=.ok (.ref A.length) (A++[.dct kvs]):=by unfold iso;rw[ai n,h];dsimp only;rw[H];dsimp only;rw[ai w]
end
theorem Pf:∀s t:bM,PyData.eqvAll (s.map YO) (t.map YO)=decide (s=t)
 |[],[]=>by simp[PyData.eqvAll]|[],_::_=>by simp[PyData.eqvAll]|_::_,[]=>by simp[PyData.eqvAll]|a::l,b::m=>by simp only[aQ,PyData.eqvAll,Pf l m,YO,PyData.eqv,Pj];rw[Bool.eq_iff_iff];simp
def ll (s t:bM)(A:Hx):ju (zo s) (zo t) A=.ok (.bl (!decide (s=t))) A:=by show wX true _ _ A=_;unfold wX;rw[OY A 6 s,OY A 6 t];dsimp only;rw[ai rfl,SH,SH,PyData.eqv,Pf]
def pre (n a b:Nat):List (Nat×Nat):=((List.range a).flatMap λx=>(List.range n).map λy=>(x,y))++(List.range b).map λy=>(a,y)
def ZX (n:Nat):List (Nat×Nat):=pre n n 0
section
variable {a b:Nat}
def lp:pre n a (b+1)=pre n a b++[(a,b)]:=by
 unfold pre;rw[bj,aN,<- aR]
 rfl
def lq:pre n a n=pre n (a+1) 0:=by unfold pre;rw[bj,bL];simp
def AQ {x y:Nat}:(x,y)∈pre n a b↔(x<a/\y<n)∨(x=a/\y<b):=by
 unfold pre;rw[List.mem_append,List.mem_flatMap]
 constructor
 ·rintro(⟨z,h1,h2⟩|h)
  ·obtain⟨u,c,H⟩:=cn.mp h2
   cases H;exact .inl ⟨cf.mp h1,cf.mp c⟩
  ·obtain⟨u,c,H⟩:=cn.mp h
   cases H;exact .inr ⟨rfl,cf.mp c⟩
 ·rintro(⟨h1,h2⟩|⟨rfl,h⟩)
  ·exact .inl ⟨x,cf.mpr h1,cn.mpr ⟨y,cf.mpr h2,rfl⟩⟩
  ·exact .inr (cn.mpr ⟨y,cf.mpr h,rfl⟩)
def U8 {x y:Nat}:(x,y)∈ZX n↔x<n/\y<n:=by unfold ZX;rw[AQ];lia
def lr:(pre n a b).length=a * n+b:=by
 unfold pre;rw[ay,ag,aI,List.length_flatMap]
 congr 1
 rw[bo (g:=λ_=>n) (λx _=>by rw[ag,aI])]
 rw[List.map_const',List.sum_replicate_nat,aI]
variable {e:Nat}{w:W}{acc L:List (Nat×Nat)}{p q:Nat×Nat}
abbrev kS (t:bM)(p:Nat×Nat):Int:=at2 t p.1 p.2
def QY (t:bM)(a:List (Nat×Nat))(p:Nat×Nat):List (Nat×Nat):=if a.any (λq=>decide (kS t q=kS t p)) then a else a++[p]
def yH (t:bM)(L:List (Nat×Nat)):List (Nat×Nat):=L.foldl (QY t) []
def Xd:yH t (L++[p])=QY t (yH t L) p:=by
 unfold yH;rw[List.foldl_append]
 rfl
def snoc_ind {P:List α->Prop}(H:P [])(h:∀l a,P l->P (l++[a])):∀l,P l:=λl=>by
 have:∀l:List α,P l.reverse:=λl=>by
  induction l with|nil=>exact H|cons a l i=>rw[bI];exact h _ _ i
 have:=this l.reverse
 rwa[List.reverse_reverse]at this
def Bw:(yH t L).length<=L.length:=by
 refine snoc_ind (P:=λL=>(yH t L).length<=L.length) (ao _) (λl p i=>?_) L;rw[Xd,ay,aW];unfold QY
 split
 ·lia
 ·rw[ay,aW];lia
def OK:∀p∈yH t L,p∈L:=by
 refine snoc_ind (P:=λL=>∀p∈yH t L,p∈L) (λ_ h=>h) (λl p i=>?_) L;intro q H;rw[Xd]at H;unfold QY at H
 split at H
 ·exact bt _ (i q H)
 ·rcases cx.mp H with h|h
  ·exact bt _ (i q h)
  ·exact aP _ h
def CK:∀p∈L,∃q∈yH t L,kS t q=kS t p:=by
 refine snoc_ind (P:=λL=>∀p∈L,∃q∈yH t L,kS t q=kS t p) (λ_ h=>by cases h) (λl p i=>?_) L
 intro q H;rw[Xd];unfold QY;rcases cx.mp H with h|h
 ·obtain⟨r,c,b⟩:=i q h
  split
  ·exact⟨r,c,b⟩
  ·exact⟨r,bt _ c,b⟩
 ·rw[cw.mp h]
  split
  ·rename_i a
   obtain⟨r,c,b⟩:=List.any_eq_true.mp a;exact⟨r,c,of_decide_eq_true b⟩
  ·exact⟨p,aP _ (cw.mpr rfl),rfl⟩
def jZ (t:bM)(p:Nat×Nat):Key×W:=(.inl (kS t p),.tup [.int p.1,.int p.2])
theorem U0 {v:Int}:∀acc:List (Nat×Nat),(yN (.inl v) (acc.map (jZ t))).isSome=acc.any λq=>decide (kS t q=v)
 |[]=>rfl|q::l=>by
  show(if (Sum.inl (kS t q):Key)=.inl v then some _ else yN (.inl v) (l.map (jZ t))).isSome=(decide (kS t q=v) || l.any λq=>decide (kS t q=v))
  by_cases h:kS t q=v
  ·rw[ai (by rw[h]),ax h];rfl
  ·rw[aj (λe=>h (by injection e)),aG h,U0 l,Bool.false_or]
def C8 {x3:Option W}(H:acc.length<1000):
  ∃w,K0 QM zF jw (qB (zi qc (zi qv zu))) [some (zo t),rO 0,iO a,x3,iO b,iV (at2 t a b)] [.dct (acc.map (jZ t))]=.ok w [.dct ((QY t acc (a,b)).map (jZ t))]:=by
 have E:K0 QM zF jw (qB (zi qc (zi qv zu))) [some (zo t),rO 0,iO a,x3,iO b,iV (at2 t a b)] [.dct (acc.map (jZ t))]=QM (.ref 0) (.int (at2 t a b)) (.tup [.int a,.int b]) [.dct (acc.map (jZ t))]:=rfl;rw[E];unfold QM;show ∃w,(if (acc.map (jZ t)).length<zT then(match yN (.inl (at2 t a b)) (acc.map (jZ t)) with|some w=>R.ok w [.dct (acc.map (jZ t))]|none=>.ok (.tup [.int a,.int b]) [O.dct (acc.map (jZ t)++[((Sum.inl (at2 t a b):Key),W.tup [.int a,.int b])])]) else .bad)=.ok w [.dct ((QY t acc (a,b)).map (jZ t))]
 rw[ai (by rw[ag];unfold zT;lia)]
 have h:=U0 (t:=t) (v:=at2 t a b) acc;unfold QY;cases e:yN (.inl (at2 t a b)) (acc.map (jZ t)) with
 |some w=>
  rw[e]at h;rw[ai (show(acc.any λq=>decide (kS t q=kS t (a,b)))=true from h.symm)]
  exact⟨w,rfl⟩
 |none=>
  rw[e]at h;rw[aj (show ¬(acc.any λq=>decide (kS t q=kS t (a,b)))=true from λz=>by have z:=h.trans z;cases z)]
  exact⟨_,by rw[aN];rfl⟩
def Nd (v:qj t):RU [zo t] []=.ok (.ref 0) [.dct ((yH t (ZX t.length)).map (jZ t))]:=by
 have x:=v.n8;have c:(t.map zq).length=t.length:=ag ..;have n:∀a b,a<t.length->b<t.length->(yH t (pre t.length a b)).length<1000:=λa b f p=>by
  have C:=Bw (t:=t) (L:=pre t.length a b);rw[lr]at C
  have:a * t.length<=8 * 8:=mul_le_mul (by lia) x
  lia
 obtain⟨g,B,e,H,l,i,r,q,h⟩:=ye (j:=yi (zo t) t.length) (st:=turn (jD 2 3) (zG (jA (Zo qi) (jD 4 5) (zG (wz (K0 QM zF jw (qB (zi qc (zi qv zu))))) zX)) zX)) (N:=t.length)
  (I:=λa u B=>B=[.dct ((yH t (pre t.length a 0)).map (jZ t))]/\∃l i r q,u=[some (zo t),rO 0,l,i,r,q])
  (λa u B f ⟨H,l,i,r,q,h⟩=>by
   subst H h;have o:=v.sq _ (yY f);have d:((t.getD a []).map W.int).length=t.length:=by rw[ag,o]
   obtain⟨g,B,e,H,Y,y,h⟩:=ye (j:=yi (.tup ((t.getD a []).map W.int)) ((t.getD a []).map W.int).length) (st:=turn (jD 4 5) (zG (wz (K0 QM zF jw (qB (zi qc (zi qv zu))))) zX)) (N:=t.length)
    (I:=λb u B=>B=[.dct ((yH t (pre t.length a b)).map (jZ t))]/\∃r q,u=[some (zo t),rO 0,iO a,some (zq (t.getD a [])),r,q])
    (λb u B p ⟨H,r,q,h⟩=>by subst H h;obtain⟨w,e⟩:=C8 (a:=a) (b:=b) (x3:=some (zq (t.getD a []))) (n a b f p);rw[<- Xd,<- lp]at e;exact⟨_,_,_,YG (int_at (by lia)),(jB rfl).trans ((zy (Zm e)).trans qx),rfl,_,_,rfl⟩)
    (λu B _=>by have:=Yr (A:=B) (ws:=(t.getD a []).map W.int);rw[d]at this ⊢;exact this) t.length 0 [some (zo t),rO 0,iO a,some (zq (t.getD a [])),r,q] _ (by lia) ⟨rfl,_,_,rfl⟩
   rw[lq]at H;subst H h;refine⟨.tup [.int a,zq (t.getD a [])],[some (zo t),rO 0,iO a,some (zq (t.getD a [])),Y,y],_,?_,(jB (ρ1:=[some (zo t),rO 0,iO a,some (zq (t.getD a [])),r,q]) rfl).trans ((zy ((jo (Yd (zh rfl))).trans ?_)).trans qx),rfl,_,_,_,_,rfl⟩
   ·have:=YG (A:=[O.dct ((yH t (pre t.length a 0)).map (jZ t))]) (K1 f)
    rw[c]at this;exact this
   ·have:(yi (.tup ((t.getD a []).map W.int)) ((t.getD a []).map W.int).length).len=t.length:=d
    rw[this];exact e)
  (λu B _=>by have:=Yr (A:=B) (ws:=t.map zq);rw[c]at this;exact this) t.length 0 [some (zo t),rO 0,none,none,none,none] [.dct []] (by lia)
  ⟨rfl,_,_,_,_,rfl⟩
 subst H h;refine qP ?_;dsimp only[VW,mq];refine(zy (qg (w:=.ref 0) (A1:=[.dct []]) rfl)).trans ?_;have z:Zo zH [some (zo t),rO 0,none,none,none,none] [.dct []]=.ok (yi (zo t) t.length) [.dct []]:=by
  have:=Yd (m:=zM 0) (ρ:=[some (zo t),rO 0,none,none,none,none]) (A:=[.dct []]) (A1:=[.dct []]) (ws:=t.map zq) (zh rfl)
  rw[c]at this;exact this
 exact(zy ((jo z).trans e)).trans (qp (qI (zh rfl)))
def Sn:qN ((acc.map (jZ t)).map (·.2))=true:=by
 induction acc with|nil=>rfl|cons p l i=>exact i
end
section
variable {a b K:Nat}
abbrev L4:Ex:=zG (jQ (kR (zj yd kK zF) (zj ju (zU J2 (zi zH (zi jw (zi yR zu)))) qv)) (zG (gH (qB (zi qc (zi qi (zi jw (zi yR zu)))))) zX) zX) zX
abbrev Rb:Ex:=zG (jA (Zo yB) (jD 7 8) L4) zX
abbrev Ic:Ex:=zG (qu 4 (zU J2 (zi zH (zi qc (zi qi zu))))) (zG (jA (Zo zH) (jD 5 6) Rb) zX)
abbrev fq (t:bM)(K a b:Nat)(d c Y y:Option W):En:=[some (zo t),iV (at2 t a b),iO a,iO b,some (zo (jh t K a b)),d,c,Y,y]
def C0 (ht:qj t)(M:qh t=(K:Int))(s:jK t)(A:Hx):Kc [zo t] A=.ok .non A:=by
 have n8:=ht.n8;have kb:=kg ht;have d:(t.map zq).length=t.length:=ag ..;have P:=Nd ht;generalize D:yH t (ZX t.length)=ps at P;have J:∀p∈ps,p.1<t.length/\p.2<t.length:=λp E=>U8.mp (OK (t:=t) p (by rw[D];exact E))
 have X:∀{a b:Nat},a<t.length->b<t.length->∀{y5 y6 y7 y8:Option W},∃v u f Z,jS (yi (zo t) t.length) (turn (jD 5 6) Rb) t.length 0 (fq t K a b y5 y6 y7 y8) []=.ok (.nx (fq t K a b v u f Z)) []:=λ {a b} l g {y5 y6 y7 y8}=>by
  obtain⟨n,B,e,H,v,u,f,Z,h⟩:=ye (j:=yi (zo t) t.length) (st:=turn (jD 5 6) Rb) (N:=t.length) (I:=λ_ U B=>B=[]/\∃y5 y6 y7 y8,U=fq t K a b y5 y6 y7 y8)
   (λc U B w ⟨H,y5,y6,y7,y8,h⟩=>by
    subst H h;have C:=ht.sq _ (yY w);have q:((t.getD c []).map W.int).length=t.length:=by rw[ag,C]
    obtain⟨n,B,e,H,f,Z,h⟩:=ye (j:=yi (.tup ((t.getD c []).map W.int)) ((t.getD c []).map W.int).length) (st:=turn (jD 7 8) L4) (N:=t.length) (I:=λ_ U B=>B=[]/\∃y7 y8,U=fq t K a b (iO c) (some (zq (t.getD c []))) y7 y8)
     (λe U B he ⟨H,y7,y8,h⟩=>by
      subst H h;have S:zj yd kK zF (fq t K a b (iO c) (some (zq (t.getD c []))) (iO e) (iV (at2 t c e))) []=.ok (.bl (decide (at2 t c e=at2 t a b))) []:=(zA (zh rfl) (zh rfl)).trans (gL _ _ []);have Q:zj ju (zU J2 (zi zH (zi jw (zi yR zu)))) qv (fq t K a b (iO c) (some (zq (t.getD c []))) (iO e) (iV (at2 t c e))) []=.ok (.bl (!decide (jh t K c e=jh t K a b))) []:=(zA ((zR (zr (zh rfl) (zr (zh rfl) (zr (zh rfl) zJ)))).trans (Ui ht M w he [])) (zh rfl)).trans (ll _ _ _);have r:=K9 S Q;have hf:(decide (at2 t c e=at2 t a b)&&!decide (jh t K c e=jh t K a b))=false:=by
       by_cases z:at2 t c e=at2 t a b
       ·rw[ax (Om (K:=K) ht s w he l g z),Bool.not_true,Bool.and_false]
       ·rw[aG z];rfl
      rw[hf]at r;exact⟨_,_,[],YG (int_at (by lia)),(jB rfl).trans ((zy ((jX r).trans qx)).trans qx),rfl,_,_,rfl⟩)
     (λU B _=>by have:=Yr (A:=B) (ws:=(t.getD c []).map W.int);rw[q]at this ⊢;exact this) t.length 0 (fq t K a b (iO c) (some (zq (t.getD c []))) y7 y8) [] (by lia) ⟨rfl,_,_,rfl⟩
    subst H h;refine⟨.tup [.int c,zq (t.getD c [])],fq t K a b (iO c) (some (zq (t.getD c []))) f Z,[],?_,(jB rfl).trans ((zy ((jo (Yd (m:=zM 6) (ws:=(t.getD c []).map W.int) (zh rfl))).trans ?_)).trans qx),rfl,_,_,_,_,rfl⟩
    ·have:=YG (A:=[]) (K1 w)
     rw[d]at this;exact this
    ·rw[show(yi (.tup ((t.getD c []).map W.int)) ((t.getD c []).map W.int).length).len=t.length from q]
     exact e)
   (λU B _=>by have:=Yr (A:=B) (ws:=t.map zq);rw[d]at this;exact this) t.length 0 (fq t K a b y5 y6 y7 y8) [] (by lia) ⟨rfl,_,_,_,_,rfl⟩
  subst H h;exact⟨_,_,_,_,e⟩
 obtain⟨n,B,e,H,x,Y,y,y4,y5,y6,y7,y8,h⟩:=ye (j:=YR (ps.map (jZ t))) (st:=turn (Xh 1 2 3) Ic) (N:=ps.length) (I:=λ_ U B=>B=[]/\∃x Y y y4 y5 y6 y7 y8,U=[some (zo t),x,Y,y,y4,y5,y6,y7,y8])
  (λi U B L ⟨H,x,Y,y,y4,y5,y6,y7,y8,h⟩=>by
   subst H h;obtain⟨l,g⟩:=J ps[i] (aL L);generalize E:ps[i]=p at l g;obtain⟨a,b⟩:=p;dsimp only at l g;obtain⟨v,u,f,Z,e⟩:=X l g (y5:=y5) (y6:=y6) (y7:=y7) (y8:=y8);have hm:=Yd (m:=zM 0) (ρ:=fq t K a b y5 y6 y7 y8) (A:=[]) (A1:=[]) (ws:=t.map zq) (zh rfl);rw[d]at hm;refine⟨.tup [.int (at2 t a b),.tup [.int a,.int b]],fq t K a b v u f Z,[],?_,(jB (ρ1:=[some (zo t),iV (at2 t a b),iO a,iO b,y4,y5,y6,y7,y8]) rfl).trans ((zy (ρ1:=fq t K a b y5 y6 y7 y8) (A1:=[]) ((qg ((zR (zr (zh rfl) (zr (zh rfl) (zr (zh rfl) zJ)))).trans (Ui ht M l g []))).trans rfl)).trans ((zy ((jo hm).trans e)).trans qx)),rfl,_,_,_,_,_,_,_,_,rfl⟩;show some ((ps.map (jZ t))[i]?.map λp=>W.tup [kW p.1,p.2])=_;rw[av,ae L,E]
   rfl)
  (λU B _=>by
   show some ((ps.map (jZ t))[ps.length]?.map λp=>W.tup [kW p.1,p.2])=_;rw[az (by rw[ag];exact ao _)]
   rfl) ps.length 0 [some (zo t),none,none,none,none,none,none,none,none] [] (by lia) ⟨rfl,_,_,_,_,_,_,_,_,rfl⟩
 have hit:G7 (zU W3 (zi zH zu)) [some (zo t),none,none,none,none,none,none,none,none] []=.ok (YR (ps.map (jZ t))) []:=by unfold G7;dsimp only;have T:zU W3 (zi zH zu) [some (zo t),none,none,none,none,none,none,none,none] []=.ok (.ref 0) [.dct (ps.map (jZ t))]:=(zR (zr (zh rfl) zJ)).trans (NF (Zi t) P rfl Sn);rw[T,zI];exact ai Sn
 have o:=jo (tw:=Xh 1 2 3) (m1:=Ic) hit;rw[show(YR (ps.map (jZ t))).len=ps.length from ag ..]at o
 subst H h;refine wH (A1:=[]) (Zi t) rfl (qP ?_);dsimp only[VQ,mq];exact(zy (o.trans e)).trans (qp (qI zP))
variable {e k:Nat}{w x z:W}{S:Nat->List (bN)}
def lu (r:qj t)(l:qh t=(K:Int))(j:k<K):∃a b:Nat,a<t.length/\b<t.length/\at2 t a b=(k:Int)/\yN (.inl (k:Int)) ((yH t (ZX t.length)).map (jZ t))=some (.tup [.int a,.int b]):=by
 obtain⟨a,b,f,d,e⟩:=Qa r (v:=k) (by lia)
 obtain⟨q,h,i⟩:=CK (t:=t) (a,b) (U8.mpr ⟨f,d⟩);have o:=U0 (t:=t) (v:=(k:Int)) (yH t (ZX t.length));rw[show(yH t (ZX t.length)).any (λq=>decide (kS t q=(k:Int)))=true from List.any_eq_true.mpr ⟨q,h,ax (i.trans e)⟩]at o
 obtain⟨w,n⟩:=Option.isSome_iff_exists.mp o;obtain⟨p,H,c⟩:=cn.mp (Oz n);obtain⟨Z,z⟩:=U8.mp (OK p H);unfold jZ at c;injection c with E g
 injection E with E
 exact⟨p.1,p.2,Z,z,E,by rw[n,g]⟩
def DM (y:qj t)(c:qh t=(K:Int))(j:∀a b,a<t.length->b<t.length->jh t K a b=S (at2 t a b).toNat)(A:Hx):V2 [zo t] A=.ok (.ref A.length) (A++[.lst ((List.range K).map λk=>zo (S k))]):=by
 have J:=y.n8;have kb:=kg y;have E:=Nd y;have I:∀k:Nat,∃q:Nat×Nat,k<K->q.1<t.length/\q.2<t.length/\at2 t q.1 q.2=(k:Int)/\yN (.inl (k:Int)) ((yH t (ZX t.length)).map (jZ t))=some (.tup [.int q.1,.int q.2]):=λk=>by
  by_cases f:k<K
  ·obtain⟨a,b,C,B,d,l⟩:=lu y c f
   exact⟨(a,b),λ_=>⟨C,B,d,l⟩⟩
  ·exact⟨(0,0),λz=>absurd z f⟩
 obtain⟨x,H⟩:=Classical.axiomOfChoice I;have nr:=Sn (t:=t) (acc:=yH t (ZX t.length));generalize (yH t (ZX t.length)).map (jZ t)=kvs at E H nr;have r:zU W3 (zi zH zu) [some (zo t),none,none] []=.ok (.ref 0) [.dct kvs]:=(zR (zr (zh rfl) zJ)).trans (NF (Zi t) E rfl nr);have D:=yG (m:=zU W0 (zi zH zu)) (ρ:=[some (zo t),rO 0,none]) (A:=[.dct kvs]) (A1:=[.dct kvs]) (k:=(K:Int)) ((zR (zr (zh rfl) zJ)).trans ((KJ y _).trans (by rw[c]))) (ZI (by lia))
 rw[aB]at D;have p:=gr (cap:=[1]) (me:=zj Si zF zH) (ρ:=[some (zo t),rO 0,none]) (A:=[.dct kvs]) (N:=K) (item:=λi=>.int (0+(i:Int))) (g:=λk=>.tup [.int ((x k).1:Int),.int ((x k).2:Int)]) D rfl (by unfold zT;lia) (λi h=>j8 h) (j7 (by lia)) (λi h=>by
  refine(zA (zh (i:=1) (w:=.ref 0) rfl) (zh (i:=0) (w:=.int (0+(i:Int))) rfl)).trans ?_;rw[Int.zero_add];show(match yN (.inl (i:Int)) kvs with|some w=>R.ok w [.dct kvs]|none=>.bad)=_
  rw[(H i h).2.2.2])
 have e:=yW p;have o:=Pg (A:=[.dct kvs]++[.lst ((List.range K).map λk=>.tup [.int ((x k).1:Int),.int ((x k).2:Int)])]) (cap:=[0]) (ρ:=[some (zo t),rO 0,rO 1]) (me:=zU J2 (zi qc (zi zH (zi zF zu)))) (mi:=qF qc) (N:=K) (u:=λk=>.int ((x k).1:Int)) (v:=λk=>.int ((x k).2:Int)) (g:=λk=>zo (S k)) (Z7 (n:=1) (zh rfl) rfl) (by show((List.range K).map _).length=K;rw[ag,aI]) (by lia)
  (λi h=>i5 (n:=1) rfl (by rw[av,aU h];rfl))
  (i6 (n:=1) rfl (by rw[ag,aI];exact ao _))
  (λi h=>by obtain⟨C,B,d,_⟩:=H i h;refine(zR (ws:=[zo t,.int ((x i).1:Int),.int ((x i).2:Int)]) (zr (zh rfl) (zr (zh rfl) (zr (zh rfl) zJ)))).trans ((Ui y c C B _).trans ?_);rw[j _ _ C B,d,aB])
 refine GU (k:=2) (A1:=[.dct kvs]++[.lst ((List.range K).map λk=>.tup [.int ((x k).1:Int),.int ((x k).2:Int)])]++[.lst ((List.range K).map λk=>zo (S k))]) (Zi t) (qP ?_) rfl (Z4 (λ_=>ZK _) _);dsimp only[V0,mq];exact(zy (qg r)).trans ((zy (qg e)).trans (qp (qI (yW o))))
def lz (H:qj t)(h:qh t=(K:Int))(s:jK t)(A:Hx):QA [zo t] A=.ok .non A:=by refine UQ (ρ:=[some (zo t)]) ?_;dsimp only[Y6];exact(zy (Zm ((zR (zr (zh rfl) zJ)).trans (PY H A)))).trans ((zy ((jX (Z9 ((zA ((zR (zr (zh rfl) zJ)).trans (C0 H h s A)) zP).trans rfl))).trans qx)).trans qx)
def lA {w:W}(h:Q3 A w):QA [w] A=.exc "NoTable" A:=by refine QJ ?_;dsimp only[Y6];exact gu (U3 ((zR (zr (zh rfl) zJ)).trans (DN h)))
def lB (h:qj t)(e:Kc [zo t] A=.ok (.tup ws) A):QA [zo t] A=.exc "NotSteady" A:=by refine QJ ?_;dsimp only[Y6];exact(zy (Zm ((zR (zr (zh rfl) zJ)).trans (PY h A)))).trans (gu ((kh (Z9 ((zA ((zR (zr (zh rfl) zJ)).trans e) zP).trans rfl))).trans (gu rfl)))
theorem Mk (v:Int):∀(r:bN)(n:Nat),QZ (.int v) (r.map W.int) n=n+r.count v
 |[],_=>rfl|x::r,n=>by
  show QZ (.int v) (r.map W.int) (if (x==v)=true then n+1 else n)=_;rw[Mk v r,List.count_cons]
  by_cases h:x=v
  ·subst h
   simp;lia
  ·simp[h]
noncomputable def qz (t:bM)(K:Nat):bN:=(List.range K).map λ(k:Nat)=>(((t.getD 0 []).count (k:Int):Nat):Int)
def AS (c:qj t)(H:qh t=(K:Int))(A:Hx):J4 [zo t] A=.ok (.ref A.length) (A++[.lst ((qz t K).map W.int)]):=by
 have kb:=kg c;have n:=c.n1;have d:=yG (m:=zU W0 (zi zH zu)) (ρ:=[some (zo t)]) (A:=[]) (A1:=[]) (k:=(K:Int)) ((zR (zr (zh rfl) zJ)).trans ((KJ c _).trans (by rw[H]))) (ZI (by lia))
 rw[aB]at d;have e:=gr (cap:=[0]) (me:=TH Xp (zj zD zF qD) zH) (ρ:=[some (zo t)]) (A:=[]) (N:=K) (item:=λi=>.int (0+(i:Int))) (g:=λk=>.int (((t.getD 0 []).count (k:Int):Nat):Int)) d rfl (by unfold zT;lia) (λi h=>j8 h) (j7 (by lia)) (λi h=>by
  have E:zj zD zF qD (some (W.int (0+(i:Int)))::[0].map λi=>([some (zo t)][i]?).join) []=.ok (.tup ((t.getD 0 []).map W.int)) []:=(zA (zh (w:=zo t) rfl) zP).trans (Jo (a:=0) n);unfold TH;rw[E,zI];dsimp only;rw[show zH (some (W.int (0+(i:Int)))::[0].map λi=>([some (zo t)][i]?).join) []=.ok (.int (0+(i:Int))) [] from zh rfl,zI,Int.zero_add]
  unfold Xp;dsimp only;rw[ai,Mk,zero_add];show(true&&((t.getD 0 []).map W.int).all yu)=true;rw[Bool.true_and,aZ];intro w f;obtain⟨v,_,rfl⟩:=cn.mp f
  rfl)
 have b:((List.range K).map λ(k:Nat)=>W.int (((t.getD 0 []).count (k:Int):Nat):Int))=(qz t K).map W.int:=by unfold qz;rw[aY];rfl
 rw[b]at e;exact GU (k:=0) (A1:=[.lst ((qz t K).map W.int)]) (Zi t) (qP (by dsimp only[VV,mq];exact qp (qI (yW e)))) rfl (Z4 (λ_=>rfl) _)
end
def OL {r:Nat}{l:bS}(h:A[r]? =some (.lst (iL l))):qC A 8 (.ref r)=some (.list (l.map λ(a:Nat)=>PyData.int a)):=by
 show(match zK (.ref r) A with|some w=>(yy (qC A 7) w).map PyData.list|none=>none)=_
 have:zK (.ref r) A=some (iL l):=by unfold zK;dsimp only;rw[h]
 rw[this];dsimp only;rw[GJ (h:=λ(a:Nat)=>PyData.int a) (λa=>rfl)]
 rfl
def ne_nil {r s:Nat}{l:bS}(h:A[r]? =some (.lst (iL l)))(H:A[s]? =some (.lst [])):ju (.ref r) (.ref s) A=.ok (.bl (decide (l≠[]))) A:=by
 show wX true _ _ A=_;unfold wX;rw[OL h,OL (l:=[]) H];dsimp only;rw[ai rfl]
 congr 2
 rw[PyData.eqv];cases l with|nil=>simp[PyData.eqvAll]|cons a l=>rw[map_nil,SeqAt.eqvAll_other_length (by simp)];simp
noncomputable def Ql (o:bS):W:=.tup (o.map λ(a:Nat)=>W.int a)
def Ae (o:bS):(Ql o).nr=true:=by show qN (o.map λ(a:Nat)=>W.int a)=true;exact Z4 (λ_=>rfl) _
abbrev SK:Ev:=zj ju (zM 2) (qL zu)
abbrev lC:Ex:=zG (wz (yM wc (zM 3) (yM ZN (zM 2) (zU yx (zi (zM 0) (zi (mQ qe (zZ (zM 2))) zu)))))) zX
def Bf {x:Option W}:∀(k f:Nat)(l fd:bS)(A:Hx),l.length=k->k<f->l.length<=100->fd.length+l.length<=100->qY 0 A->A[1]? =some (.lst (iL l))->A[2]? =some (.lst (iL fd))->
  ∃A' d,wK SK lC f [rO 0,x,rO 1,rO 2] A=.ok (.nx [rO 0,x,rO 1,rO 2]) A'/\qY 0 A'/\A'[2]? =some (.lst (iL d))/\d.Perm (fd++l):=by
 intro k
 induction k with
 |zero=>
  intro f l fd A n hf _ _ v h1 h2;obtain⟨f,rfl⟩:∃I,f=I+1:=⟨f-1,by lia⟩
  have:l=[]:=List.length_eq_zero_iff.mp n
  subst this;refine⟨A++[.lst []],fd,?_,?_,jq h2,by simp⟩
  ·unfold wK
   have p:SK [rO 0,x,rO 1,rO 2] A=.ok (.bl false) (A++[.lst []]):=(zA (zh (i:=2) rfl) (jI zJ)).trans (ne_nil (l:=[]) (jq h1) qH);rw[p,zI]
  ·obtain⟨c,b,e,r⟩:=v
   exact⟨c,b,jq e,r⟩
 |succ k N=>
  intro f l fd A n hf J Q v h1 h2;obtain⟨f,rfl⟩:∃I,f=I+1:=⟨f-1,by lia⟩
  have p:SK [rO 0,x,rO 1,rO 2] A=.ok (.bl true) (A++[.lst []]):=by
   refine(zA (zh (i:=2) rfl) (jI zJ)).trans ((ne_nil (jq h1) qH).trans ?_);have z:l≠[]:=λe=>by rw[e]at n;cases n
   rw[ax z]
  have H:qY 0 (A++[.lst []]):=by obtain⟨c,b,e,r⟩:=v;exact⟨c,b,jq e,r⟩
  have g1:=jq (u:=.lst []) h1;have g2:=jq (u:=.lst []) h2;generalize A++[O.lst []]=B at p H g1 g2;obtain⟨r,o,S,M,Z,t⟩:=Yv H (m:=(l.length:Int)) (by lia) (by lia)
  obtain⟨q,rfl⟩:=a5 M;have y:q<l.length:=by lia
  have E:mQ qe (zZ (zM 2)) [rO 0,x,rO 1,rO 2] B=.ok (.int l.length) B:=by
   rw[jF (yr (w:=.ref 1) (A1:=B) (ws:=iL l) (zh rfl) (by unfold zK;dsimp only;rw[g1]))]
   unfold qe;rw[ag]
  have X:zU yx (zi (zM 0) (zi (mQ qe (zZ (zM 2))) zu)) [rO 0,x,rO 1,rO 2] B=.ok (.int q) (B.set 0 o):=(zR (zr (zh (i:=0) rfl) (zr E zJ))).trans S;have j:(B.set 0 o)[1]? =some (.lst (iL l)):=by rw[au (by lia)];exact g1
  have D:(B.set 0 o)[2]? =some (.lst (iL fd)):=by rw[au (by lia)];exact g2
  have hw:(iL l)[q]? =iV ((l[q]:Nat):Int):=by rw[av,ae y];rfl
  have L:=(Jj (g:=ZN) (a:=zM 2) (zh rfl) g1 X).trans (DX j hw (by lia))
  have he:(iL l).eraseIdx q=iL (l.eraseIdx q):=by exact P4 _ _ _
  rw[he]at L;have h:((B.set 0 o).set 1 (.lst (iL (l.eraseIdx q))))[2]? =some (.lst (iL fd)):=by rw[au (by lia)];exact D
  have K:=(Jj (g:=wc) (a:=zM 3) (zh rfl) g2 L).trans (Gq h (by rw[ag];lia))
  have C:iL fd++[.int ((l[q]:Nat):Int)]=iL (fd++[l[q]]):=by unfold iL;rw[aN];rfl
  rw[C]at K;have hlen:(l.eraseIdx q).length=k:=by rw[List.length_eraseIdx_of_lt y];lia
  obtain⟨A',d,U,s4,Y,P⟩:=N f (l.eraseIdx q) (fd++[l[q]]) (((B.set 0 o).set 1 (.lst (iL (l.eraseIdx q)))).set 2 (.lst (iL (fd++[l[q]])))) hlen (by lia) (by lia) (by rw[ay,aW];lia)
   (by obtain⟨c,b,e,r⟩:=t;exact⟨c,b,by rw[au (by lia),au (by lia)];exact e,r⟩)
   (by rw[au (by lia),aw (jU j)]) (by rw[aw (jU h)])
  refine⟨A',d,?_,s4,Y,P.trans ?_⟩
  ·unfold wK
   rw[p,zI];dsimp only;have T:=(zy (m2:=zX) (Zm K)).trans qx;show R.bind (zG (wz (yM wc (zM 3) (yM ZN (zM 2) (zU yx (zi (zM 0) (zi (mQ qe (zZ (zM 2))) zu)))))) zX [rO 0,x,rO 1,rO 2] B) _=_;rw[T,zI];exact U
  ·rw[aR]
   exact List.Perm.append_left fd (PC (ae y)).symm
def Nm {m:Nat}(h:qY m A)(u:n<=8):∃p o,J7 [.ref m,.int n] A=.ok (Ql p) (A.set m o)/\qY m (A.set m o)/\p.Perm (List.range n):=by
 obtain⟨c,b,d,g,j⟩:=h;have r:=jU d;obtain⟨q,l,e,⟨C,B,E,H,a⟩,t,f⟩:=Bf (x:=iO n) n 1000 (List.range n) [] [.lst [.int c,.bl b],.lst (iL (List.range n)),.lst []] aI (by lia) (by rw[aI];lia) (by rw[aI];simp;lia) ⟨c,b,rfl,g,j⟩ rfl rfl
 refine⟨l,.lst [.int C,.bl B],?_,⟨C,B,aw r,H,a⟩,f⟩;unfold J7;refine GS (A1:=q) d rfl ?_ E (Ae l);unfold Pb;refine qP ?_;dsimp only[V5,mq];refine(zy (ρ1:=[rO 0,iO n,rO 1,none]) (A1:=[.lst [.int c,.bl b],.lst (iL (List.range n))]) ((qg (Dc (zh (i:=1) rfl) (by lia))).trans rfl)).trans ?_
 refine(zy (ρ1:=[rO 0,iO n,rO 1,rO 2]) (A1:=[.lst [.int c,.bl b],.lst (iL (List.range n)),.lst []]) ((qg (jI zJ)).trans rfl)).trans ?_;refine(zy e).trans (qp (qI (KR (yr (w:=.ref 2) (A1:=q) (ws:=iL l) (zh rfl) (by unfold zK;dsimp only;rw[t])))))
section
def V8 (h:qj t)(A:Hx):R4 [zo t] A=.ok (.int (qh t)) A:=KJ h A
def X9 (h:qj t){e d M:Ev}{a b:Nat}(f:M ρ A=.ok (zo t) A)(c:e ρ A=.ok (.int a) A)(H:d ρ A=.ok (.int b) A)(l:a<t.length)(L:b<t.length):zj zD (zj zD M e) d ρ A=.ok (.int (at2 t a b)) A:=
 (zA ((zA f c).trans (Jo l)) H).trans (kQ (by rw[h.sq _ (yY l)];exact L))
def lD (h:qj t){p o:bS}(H:∀a∈o,a<t.length)(q:o.length<=8)(n:(p.length:Int)=qh t-1){r:Nat}(g:A[r]? =some (.lst ((ji p).map W.int))):V3 [zo t,Ql o,.ref r] A=.ok (zo (wI t p o)) A:=by
 unfold V3 R1;refine qP ?_;dsimp only[V7,mq];refine qp (qI ?_);have E:=GG (cap:=[0,1,2]) (ρ:=[some (zo t),some (Ql o),rO r]) (A:=A) (m:=zM 1) (o:=o) (f:=λ(a:Nat)=>W.int a) (me:=mQ Zp (qy 1 [0,1,3] (qF (zM 2)) (zN 0) (qa (.bl true)) (ql (zj zD (zM 3) (zj zD (zj zD (zM 2) (zM 1)) (zM 0))))))
  (G:=λa=>zq (o.map λb=>(ji p).getD (at2 t a b).toNat 0)) (zh rfl) (by unfold zT;lia) (λa e=>by
   have j:=GG (cap:=[0,1,3]) (ρ:=[iO a,some (zo t),some (Ql o),rO r]) (A:=A) (m:=zM 2) (o:=o) (f:=λ(a:Nat)=>W.int a) (me:=zj zD (zM 3) (zj zD (zj zD (zM 2) (zM 1)) (zM 0)))
    (G:=λb=>.int ((ji p).getD (at2 t a b).toNat 0)) (zh rfl) (by unfold zT;lia) (λb d=>by
     have L:=H a e;have l:=H b d;have u:=(YA h L l).1;have B:=KP h L l;have v:(at2 t a b).toNat<(ji p).length:=by unfold ji;rw[bc,ag];lia
     refine(zA (zh (i:=3) rfl) (X9 h (zh (i:=2) rfl) (zh (i:=1) rfl) (zh (i:=0) rfl) L l)).trans ?_;have c:at2 t a b=((at2 t a b).toNat:Int):=by lia
     rw[c];refine wa g ?_;rw[av,ae v,aB,aa,ae v]
     rfl)
   refine(KR j).trans ?_;unfold zq;rw[aY]
   rfl)
 refine(KR E).trans ?_;unfold wI zo;rw[aY]
 rfl
def Oo (h:qj t){m:Nat}(Y:qY m A):∃p o b,ZY [.ref m,zo t] A=.ok (zo (wI t p o)) (A.set m b)/\qY m (A.set m b)/\p.Perm (List.range (qh t-1).toNat)/\o.Perm (List.range t.length):=by
 obtain⟨c,b,P,hc,hb⟩:=Y;have hm:=jU P;have kb:=kg h;have n8:=h.n8;generalize H:([.lst [.int c,.bl b],.lst [.int 0]]:Hx)=B;have sB:qY 0 B:=by rw[<- H];exact⟨c,b,rfl,hc,hb⟩
 obtain⟨p,g,Q,s1,j⟩:=Nm sB (n:=(qh t-1).toNat) (by lia)
 have I:(B.set 0 g)[1]? =some (.lst [.int 0]):=by rw[<- H];rfl
 have E:(B.set 0 g).length=2:=by rw[<- H];rfl
 generalize B.set 0 g=d at*;have u:(((qh t-1).toNat:Nat):Int)=qh t-1:=by lia
 rw[u]at Q;have ec:qy 1 [] (qF (zU J7 (zi (zM 0) (zi (zj Zw (zM 2) (qa (.int 1))) zu)))) (zN 0) (qa (.bl true)) (ql (zj qR (qa (.int 1)) (zM 0))) [rO 0,some (zo t),iV (qh t),none] B=.ok (p.map λ(k:Nat)=>W.int (1+(k:Int))) d:=by
  have em:zU J7 (zi (zM 0) (zi (zj Zw (zM 2) (qa (.int 1))) zu)) [rO 0,some (zo t),iV (qh t),none] B=.ok (Ql p) d:=(zR (ws:=[.ref 0,.int (qh t-1)]) (A1:=B) (zr (zh (i:=0) rfl) (zr ((zA (zh (i:=2) rfl) (zP (w:=.int 1))).trans rfl) zJ))).trans Q;have K:=GG (cap:=[]) (ρ:=[rO 0,some (zo t),iV (qh t),none]) (A:=d) (m:=qa (Ql p)) (o:=p) (f:=λ(a:Nat)=>W.int a) (me:=zj qR (qa (.int 1)) (zM 0)) (G:=λ(k:Nat)=>W.int (1+(k:Int))) rfl (by have:=j.length_eq;rw[aI]at this;unfold zT;lia) (λa M=>(zA (zP (w:=.int 1)) (zh (i:=0) rfl)).trans rfl)
  unfold qy at K ⊢;rw[QK (m:=qa (Ql p)) (A1:=d) rfl,zI]at K;rw[QK em,zI];exact K
 have l:p.length=(qh t-1).toNat:=by rw[j.length_eq,aI]
 have J:zj qR (qL (zi (qa (.int 0)) zu)) (jN (qy 1 [] (qF (zU J7 (zi (zM 0) (zi (zj Zw (zM 2) (qa (.int 1))) zu)))) (zN 0) (qa (.bl true)) (ql (zj qR (qa (.int 1)) (zM 0))))) [rO 0,some (zo t),iV (qh t),none] [.lst [.int c,.bl b]]=
   .ok (.ref (d++[O.lst (p.map λ(k:Nat)=>W.int (1+(k:Int)))]).length) (d++[O.lst (p.map λ(k:Nat)=>W.int (1+(k:Int)))]++[O.lst ([.int 0]++p.map λ(k:Nat)=>W.int (1+(k:Int)))]):=by
  refine(zA (x:=.ref 1) (A1:=B) ((jI (ws:=[.int 0]) (A1:=[.lst [.int c,.bl b]]) rfl).trans (by rw[<- H];rfl)) (yW ec)).trans ?_
  refine Kr (jq I) ?_ (by rw[ag,l];show 1+_<=zT;unfold zT;lia)
  rw[qH]
 have z:([.int 0]++p.map λ(k:Nat)=>W.int (1+(k:Int)))=(ji p).map W.int:=by unfold ji;rw[aQ,aY];rfl
 rw[z]at J;have X:qY 0 (d++[O.lst (p.map λ(k:Nat)=>W.int (1+(k:Int)))]++[O.lst ((ji p).map W.int)]):=by obtain⟨c,b,e,r⟩:=s1;exact⟨c,b,jq (jq e),r⟩
 have N:(d++[O.lst (p.map λ(k:Nat)=>W.int (1+(k:Int)))]++[O.lst ((ji p).map W.int)])[(d++[O.lst (p.map λ(k:Nat)=>W.int (1+(k:Int)))]).length]? =some (.lst ((ji p).map W.int)):=qH;have Z:(d++[O.lst (p.map λ(k:Nat)=>W.int (1+(k:Int)))]).length=3:=by rw[ay,E];rfl
 rw[Z]at N J;generalize d++[O.lst (p.map λ(k:Nat)=>W.int (1+(k:Int)))]++[O.lst ((ji p).map W.int)]=C at*;obtain⟨o,L,e3,s2,q⟩:=Nm X (n:=t.length) n8;have hol:o.length=t.length:=by rw[q.length_eq,aI]
 have D:(C.set 0 L)[3]? =some (.lst ((ji p).map W.int)):=by rw[au (by lia)];exact N
 generalize C.set 0 L=U at*;have e4:=lD h (p:=p) (o:=o) (λa M=>cf.mp (q.mem_iff.mp M)) (by lia) (by lia) D
 obtain⟨S,T,e',v,y⟩:=s2;refine⟨p,o,.lst [.int S,.bl T],?_,⟨S,T,aw hm,v,y⟩,j,q⟩;unfold ZY;refine GS (A1:=U) P (by show((zo t).nr&&true)=true;rw[ZK];rfl) ?_ e' (ZK _)
 unfold Rv;refine qP ?_;dsimp only[Vs,mq];refine(zy (ρ1:=[rO 0,some (zo t),iV (qh t),none]) (A1:=[.lst [.int c,.bl b]]) ((qg ((zR (ws:=[zo t]) (A1:=[.lst [.int c,.bl b]]) rfl).trans (V8 h _))).trans rfl)).trans ?_;refine(zy (ρ1:=[rO 0,some (zo t),iV (qh t),rO 3]) (A1:=C) ((qg J).trans rfl)).trans (qp (qI ?_));refine(zR (ws:=[zo t,Ql o,.ref 3]) (A1:=U) (zr (zh (i:=1) rfl) (zr ((zR (ws:=[.ref 0,.int t.length]) (A1:=C) (zr (zh (i:=0) rfl) (zr (iZ rfl) zJ))).trans e3) (zr (zh (i:=3) rfl) zJ)))).trans e4
end
theorem Py:∀l:bN,gx (l.map W.int)=some (l.map λi=>i != 0)
 |[]=>rfl|x::l=>by
  show(match YH (.int x),gx (l.map W.int) with|some k,some K=>some (k::K)|_,_=>none)=_
  rw[Py l]
  rfl
def UO (l:bN):gE (l.map W.int) A=.ok (.int l.sum) A:=by
 unfold gE;rw[Kg]
 have:∀(l:bN)(k:Int),kH l k=k+l.sum:=λl=>by
  induction l with|nil=>intro k;show k=k+0;lia|cons x l i=>intro k;show kH l (k+x)=_;rw[i,sum_cons];lia
 dsimp only;rw[this,Int.zero_add]
section
variable {K m j:Nat}{w:bN}{S:List (bM)}
structure Wf (K:Nat)(S:List (bM)):Prop where
 l:S.length=K
 r:∀t∈S,t.length=K
 c:∀t∈S,∀q∈t,q.length=K
 b:∀t∈S,∀i j,0<=at2 t i j/\at2 t i j<100
def Bg (w:bN):Prop:=∀v∈w,v.natAbs<2 ^ 256
def Xy (h:Bg w)(i:Nat):(w.getD i 0).natAbs<2 ^ 256:=by
 by_cases H:i<w.length
 ·rw[aa,ae H]
  exact h _ (aL _)
 ·rw[aa,az (by lia)]
  decide
def Me {i j:Int}(h:i.natAbs<2 ^ 256)(H:j.natAbs<2 ^ 256):qd (.int i) (.int j) A=.ok (.int (i * j)) A:=by
 unfold qd;dsimp only;rw[ai];unfold YK;rw[a3,a3]
 right
 right
 rw[ak];exact⟨ax h,ax H⟩
def OO (h:∀v∈w,-100<v/\v<100):Bg w:=λv H=>by have:=h v H;lia
abbrev pS (S:List (bM))(k i j:Nat):Int:=at2 (S.getD k []) i j
def yv (S:List (bM))(w:bN)(i j:Nat):Bool:=((S.drop w.length).any λt=>at2 t i j != 0) || decide (w.getD i 0 * w.getD j 0=((List.range w.length).map λk=>pS S k i j * w.getD k 0).sum)
def j4 (S:List (bM))(w:bN):Bool:=(List.range w.length).all λi=>(List.range w.length).all λj=>yv S w i j
def Ez {c:En}{j:jn}{N d:Nat}{u v g:Nat->W}(t:∀i,i<N->j.at_ A i=some (some (.tup [u i,v i])))(H:j.at_ A N=some none)(b:∀i,i<N->me (some (u i)::some (v i)::c) A=.ok (g i) A):
  ∀(f i:Nat)(x y:Option W)(a:List W),i+f=N->a.length+f<=zT->∃ρ,ja j (jD 0 1) (qa (.bl true)) (ql me) (f+d) i (x::y::c) a A=.ok (ρ,a++(List.range' i f).map g) A:=by
 intro f
 induction f with
 |zero=>
  intro i x y a h l
  have:i=N:=by lia
  subst this;refine⟨x::y::c,?_⟩;rw[zero_add];cases d<;>(unfold ja;rw[H];simp)
 |succ f I=>
  intro i x y a h l;obtain⟨ρ,e⟩:=I (i+1) (some (u i)) (some (v i)) (a++[g i]) (by lia) (by rw[ay,aW];lia)
  refine⟨ρ,?_⟩;rw[show f+1+d=(f+d)+1 by lia,ja,t i (by lia)]
  dsimp only;rw[show jD 0 1 (.tup [u i,v i]) (x::y::c)=some (some (u i)::some (v i)::c) from rfl]
  dsimp only[qa];rw[zI];dsimp only;have E:ql me (some (u i)::some (v i)::c) a A=.ok (some (u i)::some (v i)::c,a++[g i]) A:=by unfold ql;rw[b i (by lia),zI,ai (by lia)]
  rw[E,zI];rw[e,aR,range'_succ,aQ]
  rfl
def F5 {j:jn}{N:Nat}{u v g:Nat->W}(l:mi ρ A=.ok j A)(b:N<=j.len)(f:N<=1000)(H:∀i,i<N->j.at_ A i=some (some (.tup [u i,v i])))(h:j.at_ A N=some none)
  (n:∀i,i<N->me (some (u i)::some (v i)::cap.map λi=>(ρ[i]?).join) A=.ok (g i) A):qy 2 cap mi (jD 0 1) q9 (ql me) ρ A=.ok ((List.range N).map g) A:=by
 obtain⟨a,e⟩:=Ez (A:=A) (c:=cap.map λi=>(ρ[i]?).join) (d:=j.len-N) H h n N 0 none none [] (by lia) (by unfold zT;simp;lia)
 unfold qy;rw[l,zI,show j.len=N+(j.len-N) by lia]
 show R.bind (R.nox (ja j _ _ _ (N+(j.len-N)) 0 (none::none::cap.map λi=>(ρ[i]?).join) [] A)) _=_;rw[e,<- range_eq_range',bK]
 rfl
def lE {n:Nat}{m:Ev}{i:Ev}{w:W}(h:m ρ A=.ok w A1):qy n cap (qF m) tw i em ρ A=qy n cap (qF (qa w)) tw i em ρ A1:=by
 unfold qy qF;rw[h]
 rfl
def DQ {m:Ev}{o:List α}{f:α->W}{G:α->W}(h:m ρ A=.ok (.ref n) A)(b:A[n]? =some (.lst (o.map f)))(l:o.length<=zT)(c:∀a∈o,me (some (f a)::cap.map λi=>(ρ[i]?).join) A=.ok (G a) A):
  qy 1 cap (qF m) (zN 0) q9 (ql me) ρ A=.ok (o.map G) A:=by
 have e:=gr (cap:=cap) (me:=me) (ρ:=ρ) (A:=A) (N:=o.length) (item:=λi=>((o.map f)[i]?).getD .non) (g:=λi=>((o.map G)[i]?).getD .non) (Z7 h b) (by rw[ag]) l
  (λi H=>(kD b).trans (by rw[av,ae H];rfl))
  ((kD b).trans (by rw[az (by rw[ag];exact ao _)]))
  (λi H=>by rw[av,av,ae H];exact c _ (aL H))
 rw[e]
 congr 1
 apply a9
 ·simp
 ·intro i j d
  have H:i<o.length:=by simpa using d
  simp[ae H]
def NK {m p:Ev}{A0:Hx}{k:Nat}(h:m ρ A0=.ok (.ref n) A)(c:A[n]? =some (.lst ws))(a:p ρ A=.ok (.int k) A)(b:k<=ws.length):Yz m (Qo p) WB ρ A0=.ok (.ref A.length) (A++[.lst (ws.drop k)]):=by
 have H:Qo p ρ A=.ok (some (k:Int)) A:=by unfold Qo;rw[a,zI]
 unfold Yz;rw[h,zI,H,zI];show(match A[n]? with|some (O.lst ws)=>R.ok (W.ref A.length) (A++[O.lst (Wv ws (some (k:Int)) none)])|_=>.bad)=_
 rw[c];dsimp only;unfold Wv;rw[HT.zaK,HT.Cq,Nat.min_eq_left b,a7 (by rw[length_drop];exact ao _)]
def G9 {us v:List W}(h:A[n]? =some (.lst us))(i:Nat)(N:Nat):(wq (.ref n) (.tup v) N).at_ A i=some (zip2 us[i]? v[i]?):=by
 show(match zK (.ref n) A,zK (.tup v) A with|some us,some v=>some (zip2 us[i]? v[i]?)|_,_=>none)=_
 have:zK (.ref n) A=some us:=by unfold zK;dsimp only;rw[h]
 rw[this]
 rfl
def lF {m M:Ev}{u v:List W}(h:m ρ A=.ok (.ref n) A)(H:A[n]? =some (.lst u))(a:M ρ A=.ok (.tup v) A):gC m M ρ A=.ok (wq (.ref n) (.tup v) u.length) A:=by
 unfold gC;rw[h,zI,a,zI]
 have:zK (.ref n) A=some u:=by unfold zK;dsimp only;rw[H]
 rw[this]
 rfl
abbrev fB:Ex:=zG (qu 5 (jN (qy 1 [3,4] (qF (Yz zH (Qo qc) WB)) (zN 0) q9 (ql (zj zD (zj zD zH zF) qc))))) (zG (qu 6 (jN (qy 2 [3,4] (gC zH zF) (jD 0 1) q9 (ql (zj qd (zj zD (zj zD zH qc) qi) zF))))) (zG (jQ (kR (kj (mQ Wu (zZ jw))) (zj ju (zj qd (zj zD zF qi) (zj zD zF qv)) (mQ gE (zZ yB)))) kU zX) zX))
def lG {x6:Option W}(H:Wf K S)(h:A[0]? =some (.lst (S.map zo)))(hm:w.length<=K)(hK:K<=8)(hw:Bg w)(Y:i<w.length)(X:j<w.length):
  ∃y5 y6 B,B[0]? =some (.lst (S.map zo))/\fB [rO 0,some (zq w),iV w.length,iO i,iO j,x5,x6] A=.ok (if yv S w i j then .nx [rO 0,some (zq w),iV w.length,iO i,iO j,y5,y6] else .rt (.bl false)) B:=by
 have p:(S.map zo).length=K:=by rw[ag,H.l]
 have e8:w.length<=8:=by lia
 generalize n:([rO 0,some (zq w),iV w.length,iO i,iO j,x5,x6]:En)=ρ;have Q:Yz zH (Qo qc) WB ρ A=.ok (.ref A.length) (A++[.lst ((S.map zo).drop w.length)]):=by subst n;exact NK (zh rfl) h (zh rfl) (by rw[p];exact hm)
 rw[<- List.map_drop]at Q;have e5:qy 1 [3,4] (qF (Yz zH (Qo qc) WB)) (zN 0) q9 (ql (zj zD (zj zD zH zF) qc)) ρ A=.ok ((S.drop w.length).map λt=>W.int (at2 t i j)) (A++[.lst ((S.drop w.length).map zo)]):=by
  rw[lE Q];refine DQ (f:=zo) zP qH (by have:=H.l;rw[length_drop];unfold zT;lia) (λt ht=>?_)
  have o:=mem_of_mem_drop ht;have U:=H.r t o;subst n;exact(zA ((zA (zh rfl) (zh rfl)).trans (Jo (a:=i) (by lia))) (zh rfl)).trans (kQ (b:=j) (by rw[H.c t o _ (yY (by lia))];lia))
 have J:=yW e5;have x:(A++[O.lst ((S.drop w.length).map zo)]++[O.lst ((S.drop w.length).map λt=>W.int (at2 t i j))])[0]? =some (.lst (S.map zo)):=jq (jq h);have E:(A++[O.lst ((S.drop w.length).map zo)]++[O.lst ((S.drop w.length).map λt=>W.int (at2 t i j))])[(A++[O.lst ((S.drop w.length).map zo)]).length]? =some (.lst ((S.drop w.length).map λt=>W.int (at2 t i j))):=qH;generalize A++[O.lst ((S.drop w.length).map zo)]++[O.lst ((S.drop w.length).map λt=>W.int (at2 t i j))]=B at*;generalize (A++[O.lst ((S.drop w.length).map zo)]).length=q at*;generalize e:([rO 0,some (zq w),iV w.length,iO i,iO j,rO q,x6]:En)=σ;have ez:gC zH zF σ B=.ok (wq (.ref 0) (zq w) (S.map zo).length) B:=by subst e;exact lF (zh rfl) x (zh rfl)
 have e6:=F5 (cap:=[3,4]) (me:=zj qd (zj zD (zj zD zH qc) qi) zF) (N:=w.length) (u:=λk=>zo (S.getD k [])) (v:=λk=>.int (w.getD k 0)) (g:=λk=>.int (pS S k i j * w.getD k 0)) ez (by show w.length<=(S.map zo).length;rw[p];exact hm) (by lia)
  (λk L=>(G9 x k _).trans (by
   rw[av,ae (show k<S.length by rw[H.l];lia),int_at L,aa (l:=S),ae (show k<S.length by rw[H.l];lia)]
   rfl))
  ((
   G9 x _ _).trans (by
   rw[az (l:=w.map W.int) (by rw[ag];exact ao _)]
   cases (S.map zo)[w.length]?<;>rfl))
  (λk L=>by
   have ht:S.getD k []∈S:=by
    rw[aa,ae (show k<S.length by rw[H.l];lia)]
    exact aL _
   have U:=H.r _ ht;have hb:=H.b _ ht i j;subst e;exact(zA ((zA ((zA (zh rfl) (zh rfl)).trans (Jo (a:=i) (by lia))) (zh rfl)).trans (kQ (b:=j) (by rw[H.c _ ht _ (yY (by lia))];lia))) (zh rfl)).trans (jt (by show -(2 ^ 64)<at2 _ i j;lia) (by show at2 _ i j<2 ^ 64;lia)))
 have I:=yW e6;have Z:(B++[O.lst ((List.range w.length).map λk=>W.int (pS S k i j * w.getD k 0))])[0]? =some (.lst (S.map zo)):=jq x;have D:(B++[O.lst ((List.range w.length).map λk=>W.int (pS S k i j * w.getD k 0))])[q]? =some (.lst ((S.drop w.length).map λt=>W.int (at2 t i j))):=jq E;have y:(B++[O.lst ((List.range w.length).map λk=>W.int (pS S k i j * w.getD k 0))])[B.length]? =some (.lst ((List.range w.length).map λk=>W.int (pS S k i j * w.getD k 0))):=qH;generalize B++[O.lst ((List.range w.length).map λk=>W.int (pS S k i j * w.getD k 0))]=C at*;refine⟨rO q,rO B.length,C,Z,?_⟩;generalize d:([rO 0,some (zq w),iV w.length,iO i,iO j,rO q,rO B.length]:En)=τ;have f1:kj (mQ Wu (zZ jw)) τ C=.ok (.bl (!((S.drop w.length).any λt=>at2 t i j != 0))) C:=by
  subst d;refine kP ((jF (yr (w:=.ref q) (ws:=((S.drop w.length).map λt=>at2 t i j).map W.int) (A1:=C) (zh rfl) (by unfold zK;dsimp only;rw[D,aY];rfl))).trans ?_)
  show Zu (λks=>ks.any id) _ C=_;unfold Zu;rw[Py,aY];dsimp only;rw[List.any_map]
  rfl
 have f2:zj ju (zj qd (zj zD zF qi) (zj zD zF qv)) (mQ gE (zZ yB)) τ C=.ok (.bl (!decide (w.getD i 0 * w.getD j 0=((List.range w.length).map λk=>pS S k i j * w.getD k 0).sum))) C:=by subst d;refine(zA ((zA ((zA (zh rfl) (zh rfl)).trans (kQ Y)) ((zA (zh rfl) (zh rfl)).trans (kQ X))).trans (Me (Xy hw i) (Xy hw j))) ((jF (yr (w:=.ref B.length) (ws:=((List.range w.length).map λk=>pS S k i j * w.getD k 0).map W.int) (A1:=C) (zh rfl) (by unfold zK;dsimp only;rw[y,aY];rfl))).trans (UO _))).trans (JU _ _ _)
 have hf:kR (kj (mQ Wu (zZ jw))) (zj ju (zj qd (zj zD zF qi) (zj zD zF qv)) (mQ gE (zZ yB))) τ C=.ok (.bl (!yv S w i j)) C:=by
  unfold yv;cases M:(S.drop w.length).any λt=>at2 t i j != 0 with|true=>rw[M]at f1;exact Ys f1|false=>rw[M]at f1;rw[Bool.false_or];exact(QQ f1).trans f2
 have head:∀{z},zG (jQ (kR (kj (mQ Wu (zZ jw))) (zj ju (zj qd (zj zD zF qi) (zj zD zF qv)) (mQ gE (zZ yB)))) kU zX) zX τ C=z->fB ρ A=z:=λT=>by subst n;subst e;subst d;exact(zy (qg J)).trans ((zy (qg I)).trans T)
 refine head ?_;cases P:yv S w i j with|true=>rw[P]at hf;exact(zy ((jX hf).trans qx)).trans qx|false=>rw[P]at hf;exact qp ((kh hf).trans (qp (qI zP)))
def all_succ {p:Nat->Bool}{k:Nat}:(List.range (k+1)).all p=((List.range k).all p&&p k):=by rw[bj,all_append];simp
def all_false {p:Nat->Bool}{k N:Nat}(H:k<N)(h:p k=false):(List.range N).all p=false:=by
 cases e:(List.range N).all p with|false=>rfl|true=>exact absurd (cu.mp e k (cf.mpr H)) (by rw[h];decide)
abbrev fI:Ex:=zG (jA (jM qc) (zN 4) fB) zX
def lH {x4 x6:Option W}(l:Wf K S)(h:A[0]? =some (.lst (S.map zo)))(t:w.length<=K)(n:K<=8)(q:Bg w)(g:i<w.length):
  (∃y4 y5 y6 B,B[0]? =some (.lst (S.map zo))/\(List.range w.length).all (yv S w i)=true/\fI [rO 0,some (zq w),iV w.length,iO i,x4,x5,x6] A=.ok (.nx [rO 0,some (zq w),iV w.length,iO i,y4,y5,y6]) B)∨
  ∃B,B[0]? =some (.lst (S.map zo))/\(List.range w.length).all (yv S w i)=false/\fI [rO 0,some (zq w),iV w.length,iO i,x4,x5,x6] A=.ok (.rt (.bl false)) B:=by
 have c:=yG (m:=qc) (ρ:=[rO 0,some (zq w),iV w.length,iO i,x4,x5,x6]) (A:=A) (A1:=A) (k:=(w.length:Int)) (zh rfl) (ZI (by lia))
 rw[aB]at c;rcases Gh (j:=jG 0 w.length) (st:=turn (zN 4) fB) (N:=w.length) (I:=λk p B=>B[0]? =some (.lst (S.map zo))/\(List.range k).all (yv S w i)=true/\∃y4 y5 y6,p=[rO 0,some (zq w),iV w.length,iO i,y4,y5,y6]) (Q:=λr B=>r=.bl false/\B[0]? =some (.lst (S.map zo))/\(List.range w.length).all (yv S w i)=false)
  (λk p B a ⟨u,H,y4,y5,y6,e⟩=>by
   subst e;refine⟨_,j8 a,?_⟩;obtain⟨Z,z,C,d,o⟩:=lG (x5:=y5) (x6:=y6) (j:=k) l u t n q g a;have E:=(jB (tw:=zN 4) (w:=.int (0+(k:Int))) (ρ:=[rO 0,some (zq w),iV w.length,iO i,y4,y5,y6]) (ρ1:=[rO 0,some (zq w),iV w.length,iO i,iO k,y5,y6]) (A:=B) (m1:=fB) (by rw[Int.zero_add];rfl)).trans o
   cases hf:yv S w i k with
   |true=>
    rw[hf]at E;exact .inl ⟨_,C,E,d,by rw[all_succ,H,hf];rfl,_,_,_,rfl⟩
   |false=>
    rw[hf]at E;exact .inr ⟨_,C,E,rfl,d,all_false a hf⟩)
  (λp B _=>j7 (by lia)) w.length 0 [rO 0,some (zq w),iV w.length,iO i,x4,x5,x6] A (by lia) ⟨h,rfl,_,_,_,rfl⟩ with ⟨f,B,e,b,H,y4,y5,y6,rfl⟩|⟨r,B,e,rfl,b,H⟩
 ·exact .inl ⟨y4,y5,y6,B,b,H,(zy ((jo c).trans e)).trans qx⟩
 ·exact .inr ⟨B,b,H,qp ((jo c).trans e)⟩
def lI (g:Wf K S)(x:w.length<=K)(n:K<=8)(v:Bg w):∃B,Tq [.ref 0,zq w] [.lst (S.map zo)]=.ok (.bl (j4 S w)) B/\B[0]? =some (.lst (S.map zo)):=by
 have l:mQ qe (zZ zF) [rO 0,some (zq w),none,none,none,none,none] [.lst (S.map zo)]=.ok (.int w.length) [.lst (S.map zo)]:=by rw[jF (yr (w:=zq w) (ws:=w.map W.int) (A1:=[.lst (S.map zo)]) (zh rfl) rfl)];unfold qe;rw[ag]
 have E:=yG (m:=qc) (ρ:=[rO 0,some (zq w),iV w.length,none,none,none,none]) (A:=[.lst (S.map zo)]) (A1:=[.lst (S.map zo)]) (k:=(w.length:Int)) (zh rfl) (ZI (by lia))
 rw[aB]at E;unfold Tq;rcases Gh (j:=jG 0 w.length) (st:=turn (zN 3) fI) (N:=w.length) (I:=λk u B=>B[0]? =some (.lst (S.map zo))/\(List.range k).all (λi=>(List.range w.length).all λj=>yv S w i j)=true/\∃y q p Y,u=[rO 0,some (zq w),iV w.length,y,q,p,Y]) (Q:=λr B=>r=.bl false/\B[0]? =some (.lst (S.map zo))/\j4 S w=false)
  (λk u B a ⟨D,H,y,q,p,Y,e⟩=>by
   subst e;refine⟨_,j8 a,?_⟩;have t:=jB (tw:=zN 3) (w:=.int (0+(k:Int))) (ρ:=[rO 0,some (zq w),iV w.length,y,q,p,Y]) (ρ1:=[rO 0,some (zq w),iV w.length,iO k,q,p,Y]) (A:=B) (m1:=fI) (by rw[Int.zero_add];rfl)
   rcases lH (x4:=q) (x5:=p) (x6:=Y) (i:=k) g D x n v a with ⟨o,Z,z,C,b,h,d⟩|⟨C,b,h,d⟩
   ·exact .inl ⟨_,C,t.trans d,b,by rw[all_succ,H];exact h,_,_,_,_,rfl⟩
   ·exact .inr ⟨_,C,t.trans d,rfl,b,all_false a h⟩)
  (λu B _=>j7 (by lia)) w.length 0 [rO 0,some (zq w),iV w.length,none,none,none,none] [.lst (S.map zo)] (by lia) ⟨rfl,rfl,_,_,_,_,rfl⟩ with ⟨f,B,e,c,H,y,q,p,Y,rfl⟩|⟨r,B,e,rfl,c,H⟩
 ·refine⟨B,qP ?_,c⟩
  rw[show j4 S w=true from H]
  dsimp only[Xa,mq];exact(zy (qg l)).trans ((zy ((jo E).trans e)).trans (qp (qI zP)))
 ·refine⟨B,qP ?_,c⟩
  rw[H];dsimp only[Xa,mq];exact(zy (qg l)).trans (qp ((jo E).trans e))
def Dy {f:Fn}{U:List W}{v:W}(H:A[n]? =some (.lst ws))(b:qN ws=true)(u:qN U=true)(h:f (.ref 0::U) [.lst ws]=.ok v A1)(c:A1[0]? =some (.lst ws))(a:v.nr=true):kI f (.ref n::U) A=.ok v A:=by
 unfold kI;dsimp only;rw[H];dsimp only;rw[b,u,h];dsimp only[Bool.and_true,if_true];rw[List.head?_eq_getElem?,c];dsimp only;rw[b,a]
 have:A.set n (.lst ws)=A:=by
  apply ext_getElem?
  intro i
  by_cases h:n=i
  ·subst h
   rw[aw (jU H),H]
  ·rw[au h]
 rw[this]
 rfl
def lJ (H:Wf K S)(d:w.length<=K)(a:K<=8)(c:Bg w)(h:A[n]? =some (.lst (S.map zo))):KW [.ref n,zq w] A=.ok (.bl (j4 S w)) A:=by obtain⟨B,e,b⟩:=lI H d a c;exact Dy h (Z4 (λ_=>ZK _) _) (by show((zq w).nr&&true)=true;rw[KH];rfl) e b rfl
end
noncomputable def dn (s:Int):bN:=(List.range (2 * s.toNat+1)).map λ(i:Nat)=>s-(i:Int)
def ext (s:Int)(w:bN):bM:=(dn s).map λv=>w++[v]
def step (q:List Int->Bool)(L:bM)(s:Int):bM:=(L.flatMap (ext s)).filter q
noncomputable def ZD (p:Nat->List Int->Bool)(z:bN):Nat->List (bN)
 |0=>[[1]]|k+1=>step (p (k+1)) (ZD p z k) (z.getD (k+1) 0)
abbrev yD (S:List (bM))(z:bN):Nat->List (bN):=ZD (λ_=>j4 S) z
def G8 (s:Int):(dn s).length=2 * s.toNat+1:=by unfold dn;rw[ag,aI]
def Xj {s v:Int}(a:0<=s):v∈dn s↔-s<=v/\v<=s:=by
 unfold dn;rw[mem_map]
 constructor
 ·rintro⟨i,H,rfl⟩
  have:=cf.mp H
  lia
 ·intro h
  exact⟨(s-v).toNat,cf.mpr (by lia),by lia⟩
def three {s:Nat}:2 * s+1<=3 ^ s:=by
 induction s with|zero=>decide|succ s i=>rw[Nat.pow_succ];lia
section
variable {K k:Nat}{w z:bN}{L:bM}{s:Int}
def Yl {x:bN}:x∈ext s w↔∃v∈dn s,x=w++[v]:=by unfold ext;rw[mem_map];exact⟨λ⟨v,h,e⟩=>⟨v,h,e.symm⟩,λ⟨v,h,e⟩=>⟨v,h,e.symm⟩⟩
def By {q:List Int->Bool}:(step q L s).length<=L.length * 3 ^ s.toNat:=by
 unfold step;refine a4 (length_filter_le _ _) ?_
 induction L with
 |nil=>rw[flatMap_nil];exact zero_le _|cons w L i=>
  rw[flatMap_cons,ay,bc,succ_mul]
  have:(ext s w).length<=3 ^ s.toNat:=by unfold ext;rw[ag,G8];exact three
  lia
def UY (M:bM):(M.flatMap (ext s)).length=M.length * (2 * s.toNat+1):=by
 induction M with
 |nil=>rw[flatMap_nil];show 0=0 * _;rw[Nat.zero_mul]|cons w M i=>
  rw[flatMap_cons,ay,i,bc,Nat.add_mul M.length 1,Nat.one_mul,add_comm];unfold ext;rw[ag,G8]
structure Zs (K:Nat)(z:bN):Prop where
 l:z.length=K
 p:∀v∈z,1<=v
 s:z.sum<=8
 h:z.getD 0 0=1
theorem KZ:∀(z:bN),(∀v∈z,1<=v)->∀v∈z,0<=z.sum/\v<=z.sum
 |[],_,v,h=>by cases h|x::z,p,v,H=>by
  have c:=p x (aF ..);have b:0<=z.sum:=by
   cases z with|nil=>exact Int.le_refl _|cons y Z=>exact(KZ (y::Z) (λu a=>p u (aA _ a)) y (aF ..)).1
  rw[sum_cons];rcases cm.mp H with rfl|H
  ·lia
  ·have:=(KZ z (λu a=>p u (aA _ a)) v H).2
   lia
def Zs.le (h:Zs K z)(H:k<K):1<=z.getD k 0/\z.getD k 0<=8:=by
 have a:z.getD k 0∈z:=by
  rw[aa,ae (by rw[h.l];exact H)]
  exact aL _
 have:=KZ z h.p _ a
 have:=h.p _ a
 have:=h.s
 lia
theorem Je {p:Nat->List Int->Bool}(a:Zs K z):∀k,k<K->∀w∈ZD p z k,w.length=k+1/\(∀v∈w,-9<v/\v<9)/\w.getD 0 0=1/\∀i,i<=k->-(z.getD i 0)<=w.getD i 0/\w.getD i 0<=z.getD i 0
 |0,c,w,h=>by
  have:w=[1]:=cw.mp h
  subst this;refine⟨rfl,λv b=>by rw[cw.mp b];lia,rfl,λi f=>?_⟩
  have:i=0:=by lia
  subst this;rw[a.h];show -1<=(1:Int)/\(1:Int)<=1;lia
 |k+1,c,w,h=>by
  obtain⟨x,d,n⟩:=List.mem_flatMap.mp (List.mem_filter.mp h).1;obtain⟨v,b,rfl⟩:=Yl.mp n;obtain⟨q,o,j,g⟩:=Je (p:=p) a k (by lia) x d
  have Z:=a.le c;have D:=(Xj (by lia)).mp b
  refine⟨by rw[ay,q];rfl,λu H=>?_,?_,λi f=>?_⟩
  ·rcases cx.mp H with H|H
   ·exact o u H
   ·rw[cw.mp H];lia
  ·rw[aa,ah (by lia),<- aa]
   exact j
  ·by_cases e:i=k+1
   ·subst e
    rw[aa (l:=x++[v]),ar (by lia),show k+1-x.length=0 by lia]
    exact D
   ·rw[aa (l:=x++[v]),ah (by lia),<- aa]
    exact g i (by lia)
theorem Ng {p:Nat->List Int->Bool}(h:Zs K z):∀k,k<K->(ZD p z k).length<=3 ^ (((z.drop 1).take k).sum).toNat
 |0,_=>by show 1<=3 ^ 0;decide|k+1,H=>by
  have i:=Ng (p:=p) h k (by lia)
  have Z:=h.le H;have e:(z.drop 1).take (k+1)=(z.drop 1).take k++[z.getD (k+1) 0]:=by
   rw[List.take_succ,List.getElem?_drop,add_comm 1 k,ae (by rw[h.l];exact H),aa,ae (by rw[h.l];exact H)]
   rfl
  have n:0<=((z.drop 1).take k).sum:=by
   cases q:(z.drop 1).take k with
   |nil=>exact Int.le_refl _|cons y l=>
    refine(KZ (y::l) (λu a=>h.p u ?_) y (aF ..)).1;rw[<- q]at a;exact mem_of_mem_drop (List.mem_of_mem_take a)
  have S:=By (q:=p (k+1)) (L:=ZD p z k) (s:=z.getD (k+1) 0);rw[e,sum_append,List.sum_singleton,Int.toNat_add n (by lia),Nat.pow_add]
  exact a4 S (Nat.mul_le_mul_right _ i)
def UP {p:Nat->List Int->Bool}(h:Zs K z)(c:k<K):(ZD p z k).length<=2187:=by
 refine a4 (Ng h k c) ?_
 have:(((z.drop 1).take k).sum).toNat<=7:=by
  have a:∀l:bN,(∀v∈l,1<=v)->0<=l.sum:=λl b=>by
   cases l with|nil=>exact Int.le_refl _|cons y l=>exact(KZ (y::l) b y (aF ..)).1
  have e:z.sum=(z.take 1).sum+((z.drop 1).take k).sum+((z.drop 1).drop k).sum:=by rw[<- sum_append,<- sum_append,aR,take_append_drop,take_append_drop]
  have A:1<=(z.take 1).sum:=by
   cases z with
   |nil=>have:=h.l;simp at this;lia|cons x z=>
    have:=h.p x (aF ..)
    simp;lia
  have a2:=a ((z.drop 1).drop k) λv H=>h.p v (mem_of_mem_drop (mem_of_mem_drop H))
  have:=h.s
  lia
 exact Nat.pow_le_pow_right (by decide) this
variable {m j:Nat}{S:List (bM)}
def OS {u v:List W}(h:u.length+v.length<=1000):qR (.tup u) (.tup v) A=.ok (.tup (u++v)) A:=by unfold qR;dsimp only;rw[ai (by unfold zT;lia)]
abbrev Rk:Em:=QW (Xs qc (zj Zw (yU Qr qc) jv)) (zN 1) q9 (ql (zj qR zH (qB (zi zF zu))))
def lK {x1:Option W}{acc:List W}(t:0<=s)(o:s<=8)(q:w.length<=8)(n:acc.length<=90000):∃Y,Rk [some (zq w),x1,iV s] acc A=.ok ([some (zq w),Y,iV s],acc++(ext s w).map zq) A:=by
 have r:Xs qc (zj Zw (yU Qr qc) jv) [some (zq w),x1,iV s] A=.ok (YJ s (2 * s.toNat+1)) A:=by
  have E:zj Zw (yU Qr qc) jv [some (zq w),x1,iV s] A=.ok (.int (-s-1)) A:=(zA (x:=.int (-s)) (A1:=A) ((NZ (g:=Qr) (zh (i:=2) rfl)).trans rfl) zP).trans rfl;unfold Xs;rw[show qc [some (zq w),x1,iV s] A=.ok (.int s) A from zh rfl,zI,E,zI]
  show(if (jl s&&jl (-s-1))=true then R.ok (YJ s (s-(-s-1)).toNat) A else .bad)=_;rw[ai,show(s-(-s-1)).toNat=2 * s.toNat+1 by lia]
  have:s=0∨s=1∨s=2∨s=3∨s=4∨s=5∨s=6∨s=7∨s=8:=by lia
  rcases this with rfl|rfl|rfl|rfl|rfl|rfl|rfl|rfl|rfl<;>decide
 obtain⟨f,d,u,e,E,c,Y,b⟩:=Ol (j:=YJ s (2 * s.toNat+1)) (tw:=zN 1) (ifs:=q9) (em:=ql (zj qR zH (qB (zi zF zu)))) (N:=2 * s.toNat+1) (I:=λk p a B=>B=A/\a=acc++((dn s).take k).map (λv=>zq (w++[v]))/\∃Y,p=[some (zq w),Y,iV s])
  (λk p a B h ⟨E,c,Y,b⟩=>by
   subst E c b;have l:k<(dn s).length:=by rw[G8];exact h
   have H:(dn s)[k]=s-(k:Int):=by simp[dn]
   refine⟨.int (s-(k:Int)),_,?_,rfl,.inl ⟨_,_,_,_,zP,Yi (y:=zq (w++[s-(k:Int)])) ((zA (zh rfl) (wF (zr (zh rfl) zJ))).trans ((OS ?_).trans ?_)) ?_,rfl,?_,_,rfl⟩⟩
   ·show(if k<2 * s.toNat+1 then some (some (W.int (s-(k:Int)))) else some none)=_
    rw[ai h]
   ·rw[ag];show w.length+1<=1000;lia
   ·unfold zq;rw[aN];rfl
   ·rw[ay,ag,bx];unfold zT;lia
   ·rw[take_succ l,aN,H,aR];rfl)
  (λp a B _=>by
   show(if 2 * s.toNat+1<2 * s.toNat+1 then some (some (W.int (s-((2 * s.toNat+1:Nat):Int)))) else some none)=_;rw[aj (by lia)]) (2 * s.toNat+1) 0 [some (zq w),x1,iV s] acc A (by lia) ⟨rfl,by rw[take_zero,map_nil,aX],_,rfl⟩
 subst E c b;refine⟨Y,?_⟩;show(QW _ _ _ _ _ _ _)=_;unfold QW;rw[r,zI];refine e.trans ?_;rw[a7 (by rw[G8];exact ao _)]
 unfold ext;rw[aY]
 rfl
abbrev LQ:jP:=qy 2 [3] (qF qc) (zN 0) q9 Rk
def lL {x y:Option W}{r:Nat}{a:W}(C:0<=s)(l:s<=8)(j:∀w∈L,w.length<=8)(q:L.length * 17<=90000)(H:A[r]? =some (.lst (L.map zq))):LQ [some a,x,rO r,iV s,y] A=.ok ((L.flatMap (ext s)).map zq) A:=by
 have i:∀k,((L.take k).flatMap (ext s)).length<=L.length * 17:=λk=>by
  rw[UY];have v:(L.take k).length<=L.length:=by rw[bx];lia
  have u:2 * s.toNat+1<=17:=by lia
  exact mul_le_mul v u
 obtain⟨g,f,J,e,E,b,_⟩:=Ya (nl:=2) (cap:=[3]) (mi:=qF qc) (ρ:=[some a,x,rO r,iV s,y]) (tw:=zN 0) (ifs:=q9) (em:=Rk) (N:=L.length) (I:=λk t c B=>B=A/\c=((L.take k).flatMap (ext s)).map zq/\∃d Y,t=[d,Y,iV s]) (Z7 (n:=r) (zh rfl) H) (by show(L.map zq).length=L.length;rw[ag])
  (λk t c B h ⟨E,b,d,Y,p⟩=>by
   subst E b p;have D:=i k;obtain⟨z,o⟩:=lK (A:=B) (w:=L[k]) (x1:=Y) (acc:=((L.take k).flatMap (ext s)).map zq) C l (j _ (aL h)) (by rw[ag];lia)
   refine⟨zq L[k],_,(kD H).trans (by rw[av,ae h];rfl),rfl,.inl ⟨_,_,_,_,zP,o,rfl,?_,_,_,rfl⟩⟩
   rw[take_succ h,bL,aN,List.flatMap_singleton])
  (λt c B ⟨E,_⟩=>by subst E;exact(kD H).trans (by rw[az (by rw[ag];exact ao _)]))
  ⟨rfl,by rw[take_zero];rfl,_,_,rfl⟩
 subst E b;rw[a7 (ao _)]at e;exact e
abbrev L8:jP:=qy 1 [1] (qF qv) (zN 0) (zU KW (zi zF (zi zH zu))) (ql zH)
def lM {x2 x3:Option W}{r:Nat}{a:W}(o:Wf K S)(q:K<=8)(p:∀w∈L,w.length<=K/\∀v∈w,-100<v/\v<100)(u:L.length<=90000)(z:A[0]? =some (.lst (S.map zo)))(H:A[r]? =some (.lst (L.map zq))):L8 [some a,rO 0,x2,x3,rO r] A=.ok ((L.filter (j4 S)).map zq) A:=by
 obtain⟨i,g,C,e,E,d,_⟩:=Ya (nl:=1) (cap:=[1]) (mi:=qF qv) (ρ:=[some a,rO 0,x2,x3,rO r]) (tw:=zN 0) (ifs:=zU KW (zi zF (zi zH zu))) (em:=ql zH) (N:=L.length) (I:=λk x c B=>B=A/\c=((L.take k).filter (j4 S)).map zq/\∃y,x=[y,rO 0]) (Z7 (n:=r) (zh rfl) H) (by show(L.map zq).length=L.length;rw[ag])
  (λk x c B h ⟨E,d,y,t⟩=>by
   subst E d t;obtain⟨l,j⟩:=p _ (aL h);have b:=(zR (f:=KW) (ρ:=[some (zq L[k]),rO 0]) (A:=B) (zr (ma:=zF) (zh rfl) (zr (ma:=zH) (zh rfl) zJ))).trans (lJ o l q (OO j) z);refine⟨zq L[k],[some (zq L[k]),rO 0],(kD H).trans (by rw[av,ae h];rfl),rfl,?_⟩
   cases hf:j4 S L[k] with
   |true=>
    rw[hf]at b;refine .inl ⟨_,_,_,_,b,Yi (zh rfl) ?_,rfl,?_,_,rfl⟩
    ·rw[ag]
     have:=length_filter_le (j4 S) (L.take k)
     rw[bx]at this;unfold zT;lia
    ·rw[take_succ h,filter_append,aN,List.filter_cons_of_pos hf,filter_nil];rfl
   |false=>
    rw[hf]at b;refine .inr ⟨_,b,rfl,?_,_,rfl⟩;rw[take_succ h,filter_append,List.filter_cons_of_neg (by rw[hf];decide),filter_nil,aX])
  (λx c B ⟨E,_⟩=>by subst E;exact(kD H).trans (by rw[az (by rw[ag];exact ao _)]))
  ⟨rfl,by rw[take_zero];rfl,_,rfl⟩
 subst E d;rw[a7 (ao _)]at e;exact e
structure Dt (t:bM)(K:Nat)(S:List (bM))(z:bN):Prop where
 tab:qj t
 kd:qh t=(K:Int)
 sd:jK t
 ks:∀A,V2 [zo t] A=.ok (.ref A.length) (A++[.lst (S.map zo)])
 zf:∀A,J4 [zo t] A=.ok (.ref A.length) (A++[.lst (z.map W.int)])
 wf:Wf K S
 zs:Zs K z
 k1:1<=K
 k8:K<=8
abbrev sB:Ex:=zG (qu 4 (jN LQ)) (zG (qu 2 (jN L8)) zX)
def lN {r:Nat}{x4:Option W}(h:Dt t K S z)(e:k+1<K)(B:A[0]? =some (.lst (S.map zo)))(f:A[r]? =some (.lst ((yD S z k).map zq))):∃y4 b C,sB [some (zo t),rO 0,rO r,iV (z.getD (k+1) 0),x4] A=.ok (.nx [some (zo t),rO 0,rO b,iV (z.getD (k+1) 0),y4]) C/\Ext A C/\C[b]? =some (.lst ((yD S z (k+1)).map zq)):=by
 have sh:=Je (p:=λ_=>j4 S) h.zs k (by lia)
 have g:(yD S z k).length<=2187:=UP (p:=λ_=>j4 S) h.zs (k:=k) (by lia)
 have Z:=h.zs.le e;have I:=h.k8;have i:=yW (lL (s:=z.getD (k+1) 0) (x:=rO 0) (y:=x4) (a:=zo t) (by lia) (by lia) (λw j=>by have:=(sh w j).1;lia) (by lia) f)
 have L:∀w∈(yD S z k).flatMap (ext (z.getD (k+1) 0)),w.length<=K/\∀v∈w,-100<v/\v<100:=λw j=>by
  obtain⟨x,c,j⟩:=List.mem_flatMap.mp j;obtain⟨v,d,rfl⟩:=Yl.mp j;obtain⟨o,n,_⟩:=sh x c;have D:=(Xj (by lia)).mp d
  refine⟨by rw[ay,o];show k+1+1<=K;lia,λu H=>?_⟩
  rcases cx.mp H with H|H
  ·have:=n u H;lia
  ·rw[cw.mp H];lia
 have l:((yD S z k).flatMap (ext (z.getD (k+1) 0))).length<=90000:=by
  rw[UY];have q:2 * (z.getD (k+1) 0).toNat+1<=17:=by lia
  exact a4 (mul_le_mul g q) (by decide)
 have E:=yW (lM (x2:=rO r) (x3:=iV (z.getD (k+1) 0)) (a:=zo t) (A:=A++[.lst (((yD S z k).flatMap (ext (z.getD (k+1) 0))).map zq)]) (r:=A.length) h.wf h.k8 L l (jq B) qH);exact⟨_,_,_,(zy (qg i)).trans ((zy (qg E)).trans qx),Ext.one.trans Ext.one,qH⟩
def Ow (h:Dt t K S z)(A:Hx):WS [zo t] A=.ok (.ref A.length) (A++[.lst ((yD S z (K-1)).map zq)]):=by
 have Z:=h.zs.l;have P:=h.k1;have Q:=h.k8;have ek:=h.ks [];have v:=h.zf [.lst (S.map zo),.lst [.tup [.int 1]]];have E:=NK (m:=zU J4 (zi zH zu)) (p:=jv) (ρ:=[some (zo t),rO 0,rO 1,none,none]) (A0:=[.lst (S.map zo),.lst [.tup [.int 1]]]) (n:=2) (k:=1) ((zR (zr (zh rfl) zJ)).trans v) rfl zP (by rw[ag,Z];exact P)
 rw[<- List.map_drop]at E;have M:(z.drop 1).length=K-1:=by rw[length_drop,Z]
 have c:∀(B:Hx)(i:Nat),B[3]? =some (.lst ((z.drop 1).map W.int))->i<K-1->((zK (.ref 3) B).map λD=>D[i]?)=some (iV (z.getD (i+1) 0)):=λB i u d=>by
  rw[kD u,av,List.getElem?_drop,add_comm 1 i,ae (by rw[Z];lia),aa,ae (by rw[Z];lia)]
  rfl
 obtain⟨f,B,e,L,H,r,y,Y,rfl,b⟩:=ye (j:=⟨λA i=>(zK (.ref 3) A).map λD=>D[i]?,K-1⟩) (st:=turn (zN 3) sB) (N:=K-1) (I:=λk J B=>B[0]? =some (.lst (S.map zo))/\B[3]? =some (.lst ((z.drop 1).map W.int))/\∃r y Y,J=[some (zo t),rO 0,rO r,y,Y]/\B[r]? =some (.lst ((yD S z k).map zq)))
  (λi J B d ⟨L,H,r,y,Y,a,b⟩=>by
   subst a;obtain⟨w,g,C,e,x,q⟩:=lN (x4:=Y) h (k:=i) (by lia) L b
   exact⟨_,_,C,c B i H d,(jB rfl).trans e,x.at L,x.at H,g,_,_,rfl,q⟩)
  (λJ B ⟨_,H,_⟩=>by show((zK (.ref 3) B).map λD=>D[K-1]?)=_;rw[kD H,az (by rw[ag,M];exact ao _)]) (K-1) 0 [some (zo t),rO 0,rO 1,none,none] [.lst (S.map zo),.lst [.tup [.int 1]],.lst (z.map W.int),.lst ((z.drop 1).map W.int)] (by lia) ⟨rfl,rfl,1,_,_,rfl,rfl⟩
 refine GU (k:=r) (A1:=B) (Zi t) (qP ?_) b (Z4 (λ_=>KH _) _);dsimp only[VD,mq];have o:(K-1)=((z.drop 1).map W.int).length:=by rw[ag,M]
 rw[o]at e;exact(zy (qg ((zR (zr (zh rfl) zJ)).trans ek))).trans ((zy (qg (jI (zr (wF (zr zP zJ)) zJ)))).trans ((zy ((jo (Z7 E rfl)).trans e)).trans (qp (qI (zh rfl)))))
end
noncomputable def sm (n:Nat)(f:Nat->Int):Int:=((List.range n).map f).sum
def wO (n:Nat)(f:Nat->Int):sm (n+1) f=sm n f+f n:=by unfold sm;rw[bj,aN,sum_append];simp
def yq {f g:Nat->Int}(h:∀i,i<n->f i=g i):sm n f=sm n g:=by
 unfold sm
 congr 1
 exact bo λi H=>h i (cf.mp H)
def UX (n:Nat):sm n (λ_=>0)=0:=by
 induction n with|zero=>rfl|succ n i=>rw[wO,i];rfl
def lO (n:Nat)(f g:Nat->Int):sm n (λi=>f i+g i)=sm n f+sm n g:=by
 induction n with|zero=>rfl|succ n I=>rw[wO,wO,wO,I];lia
def NR {a:Nat}(b:a<n)(v:Int):sm n (λi=>if i=a then v else 0)=v:=by
 induction n with
 |zero=>lia|succ n I=>
  rw[wO]
  by_cases h:a=n
  ·subst h
   have:sm a (λi=>if i=a then v else 0)=sm a λ_=>0:=yq λi H=>aj (by lia)
   rw[this,UX,ai rfl];lia
  ·rw[I (by lia),aj (by lia)]
   lia
section
variable {a b c e k K:Nat}
def lP (l:qj t)(s:jK t)(j:qh t=(K:Int))(i:k<K):∃b,b<t.length/\at2 t 0 b=(k:Int):=by
 obtain⟨a,b,h,f,e⟩:=Qa l (v:=k) (by lia)
 have n:=l.n1;have D:at2 t 0 0=at2 t a a:=by rw[(l.dg 0 0 n n).mpr rfl,(l.dg a a h h).mpr rfl]
 have H:=s 0 0 a a n n h h D;have o:((k:Int),(k:Int))∈g7 t a a:=by unfold g7;exact cn.mpr ⟨b,cf.mpr f,by rw[e]⟩
 obtain⟨c,d,E⟩:=cn.mp (H.mem_iff.mpr o);injection E with g _
 exact⟨c,cf.mp d,g⟩
end
def Ms (n:Nat)(f:Nat->Int)(v:Int):sm n (λi=>v * f i)=v * sm n f:=by
 induction n with|zero=>show(0:Int)=v * 0;rw[Int.mul_zero]|succ n I=>rw[wO,wO,I,Int.mul_add]
def Ag (n:Nat)(f:Nat->Int)(v:Int):sm n (λi=>f i * v)=sm n f * v:=by rw[Int.mul_comm,<- Ms];exact yq λi _=>Int.mul_comm _ _
def U2 (n m:Nat)(f:Nat->Nat->Int):sm n (λi=>sm m (f i))=sm m λj=>sm n λi=>f i j:=by
 induction n with
 |zero=>show(0:Int)=_;exact(UX m).symm|succ n I=>
  rw[wO,I,<- lO];exact yq λj _=>(wO n λi=>f i j).symm
section
variable {K m j k:Nat}{w x z:bN}{S:List (bM)}
def Full (K:Nat)(S:List (bM))(w:bN):Prop:=∀i j,i<K->j<K->w.getD i 0 * w.getD j 0=sm K λk=>pS S k i j * w.getD k 0
structure Wt (K:Nat)(S:List (bM))(z w:bN):Prop where
 l:w.length=K
 o:w.getD 0 0=1
 b:∀i,i<K->-(z.getD i 0)<=w.getD i 0/\w.getD i 0<=z.getD i 0
 f:Full K S w
def Ux:yv S w i j=true↔(∃t∈S.drop w.length,at2 t i j≠0)∨w.getD i 0 * w.getD j 0=sm w.length λk=>pS S k i j * w.getD k 0:=by
 unfold yv;rw[a3,any_eq_true,aq]
 have:(∃t∈S.drop w.length,(at2 t i j != 0)=true)↔∃t∈S.drop w.length,at2 t i j≠0:=by
  constructor
  ·rintro⟨t,H,h⟩;exact⟨t,H,by simpa using h⟩
  ·rintro⟨t,H,h⟩;exact⟨t,H,by simpa using h⟩
 rw[this];exact Iff.rfl
def OC:j4 S w=true↔∀i j,i<w.length->j<w.length->yv S w i j=true:=by
 unfold j4;rw[aZ]
 constructor
 ·intro h i j a H
  exact cu.mp (h i (cf.mpr a)) j (cf.mpr H)
 ·intro h i a
  rw[aZ];exactλj H=>h i j (cf.mp a) (cf.mp H)
def UB (b:S.length=K)(c:w.length=K):j4 S w=true↔Full K S w:=by
 rw[OC];unfold Full;rw[c];refine⟨λh i j a H=>?_,λh i j a H=>Ux.mpr (.inr (by rw[c];exact h i j a H))⟩
 rcases Ux.mp (h i j a H) with ⟨t,d,_⟩|e
 ·rw[c,List.drop_of_length_le (by lia)]at d
  cases d
 ·rw[c]at e;exact e
def Yf {l:bN}(h:i<m):(l.take m).getD i 0=l.getD i 0:=by rw[aa,List.getElem?_take_of_lt h,<- aa]
theorem Ts {f:Nat->Int}:∀d,(∀k,m<=k->k<m+d->f k=0)->sm (m+d) f=sm m f
 |0,_=>rfl|d+1,h=>by rw[<- Nat.add_assoc,wO,Ts d (λk H a=>h k H (by lia)),h (m+d) (by lia) (by lia),Int.add_zero]
def Bc (c:S.length=K)(d:w.length=K)(f:Full K S w)(g:m<=K):j4 S (w.take m)=true:=by
 have l:(w.take m).length=m:=by rw[bx];lia
 refine OC.mpr λi j a H=>Ux.mpr ?_;rw[l]at a H ⊢
 by_cases h:∃t∈S.drop m,at2 t i j≠0
 ·exact .inl h
 ·refine .inr ?_
  rw[Yf a,Yf H,f i j (by lia) (by lia)]
  have e:K=m+(K-m):=by lia
  rw[e,Ts (K-m) λk o n=>?_]
  ·exact yq λk b=>by rw[Yf b]
  ·have:at2 (S.getD k []) i j=0:=Decidable.byContradiction λq=>h ⟨S.getD k [],by
    rw[aa,ae (by lia)]
    exact List.mem_iff_getElem.mpr ⟨k-m,by rw[length_drop];lia,by rw[List.getElem_drop];congr 1;lia⟩,q⟩
   show at2 _ i j * _=0;rw[this,zero_mul]
theorem TC {p:Nat->List Int->Bool}(H:Zs K z)(a:∀k,k+1<K->p (k+1) (w.take (k+1+1))=true)(d:Wt K S z w):∀k,k<K->w.take (k+1)∈ZD p z k
 |0,h=>by
  have:w.take 1=[1]:=by
   cases w with|nil=>have:=d.l;simp at this;lia|cons v w=>have:=d.o;rw[show(v::w).getD 0 0=v from rfl]at this;rw[this];rfl
  rw[this];exact cw.mpr rfl
 |k+1,h=>by
  have i:=TC H a d k (by lia)
  have c:=d.l;have Z:=H.le h;have e:w.take (k+1+1)=w.take (k+1)++[w.getD (k+1) 0]:=by
   rw[take_succ (by lia),aa,ae (by lia)]
   rfl
  refine List.mem_filter.mpr ⟨?_,a k h⟩;rw[e];exact List.mem_flatMap.mpr ⟨_,i,Yl.mpr ⟨_,(Xj (by lia)).mpr (d.b _ h),rfl⟩⟩
def lQ (H:1<=k)(h:w∈yD S z k):j4 S w=true:=by
 obtain⟨k,rfl⟩:∃j,k=j+1:=⟨k-1,by lia⟩
 exact(List.mem_filter.mp h).2
def Nc (H:Zs K z)(b:S.length=K)(u:1<=K)(q:K=1->pS S 0 0 0=1):w∈yD S z (K-1)↔Wt K S z w:=by
 constructor
 ·intro h
  obtain⟨t,r,n,o⟩:=Je H (K-1) (by lia) w h
  have a:w.length=K:=by lia
  refine⟨a,n,λi c=>o i (by lia),?_⟩
  by_cases e:K=1
  ·subst e
   intro i j c g
   have:i=0:=by lia
   subst this
   have:j=0:=by lia
   subst this;rw[n,wO];show(1:Int) * 1=sm 0 _+pS S 0 0 0 * w.getD 0 0;rw[q rfl,n]
   rfl
  ·exact(UB b a).mp (lQ (by lia) h)
 ·intro h
  have:=TC (p:=λ_=>j4 S) H (λk d=>Bc b h.l h.f (by lia)) h (K-1) (by lia)
  rwa[a7 (by have:=h.l;lia)]at this
theorem OB (x y:Int):∀w:bN,yj (w++[x]) (w++[y])=decide (x<y)
 |[]=>by
  show(if x=y then false else decide (x<y))=_
  split
  ·exact(aG (by lia)).symm
  ·rfl
 |c::w=>by
  show(if c=c then yj (w++[x]) (w++[y]) else _)=_;rw[ai rfl];exact OB x y w
theorem Nz (x y:Int):∀a b:bN,a.length=b.length->a≠b->yj (a++[x]) (b++[y])=yj a b
 |[],[],_,h=>absurd rfl h|[],_::_,h,_=>by cases h|_::_,[],h,_=>by cases h|c::a,d::b,h,hn=>by
  show(if c=d then yj (a++[x]) (b++[y]) else _)=if c=d then yj a b else _
  by_cases e:c=d
  ·rw[ai e,ai e]
   exact Nz x y a b (by injection h) λq=>hn (by rw[e,q])
  ·rw[aj e,aj e]
theorem Ut:∀a b:bN,yj a b=true->yj b a=false
 |[],[],h=>by cases h|[],_::_,_=>rfl|_::_,[],h=>by cases h|c::a,d::b,h=>by
  change (if c=d then yj a b else decide (c<d))=true at h
  show(if d=c then yj b a else decide (d<c))=false
  by_cases e:c=d
  ·subst e
   rw[ai rfl]at h ⊢;exact Ut a b h
  ·rw[aj e,aq]at h
   rw[aj (Ne.symm e),decide_eq_false_iff_not];lia
def Xb {a b:bN}(h:yj b a=true)(e:a=b):False:=by rw[e,C9]at h;cases h
theorem OI:∀{a b:bM},a.Pairwise (λx y=>yj y x=true)->b.Pairwise (λx y=>yj y x=true)->(∀x,x∈a↔x∈b)->a=b
 |[],[],_,_,_=>rfl|[],y::b,_,_,h=>absurd ((h y).mpr (aF ..)) bE|x::a,[],_,_,h=>absurd ((h x).mp (aF ..)) bE|x::a,y::b,d,c,h=>by
  obtain⟨A,a2⟩:=List.pairwise_cons.mp d;obtain⟨B,f⟩:=List.pairwise_cons.mp c;have e:x=y:=by
   rcases cm.mp ((h x).mp (aF ..)) with e|e
   ·exact e
   ·rcases cm.mp ((h y).mpr (aF ..)) with E|E
    ·exact E.symm
    ·have g:=Ut _ _ (B x e)
     rw[A y E]at g;cases g
  subst e;rw[OI a2 f λz=>⟨λH=>(cm.mp ((h z).mp (aA _ H))).resolve_left λe=>Xb (A z H) e.symm,λH=>(cm.mp ((h z).mpr (aA _ H))).resolve_left λe=>Xb (B z H) e.symm⟩]
theorem Kj {p:Nat->List Int->Bool}(c:Zs K z):∀k,k<K->(ZD p z k).Pairwise λa b=>yj b a=true
 |0,_=>List.pairwise_singleton _ _|k+1,n=>by
  have i:=Kj (p:=p) c k (by lia)
  have sh:=Je (p:=p) c k (by lia)
  refine List.Pairwise.filter _ ?_;rw[List.pairwise_flatMap];refine⟨λw o=>?_,?_⟩
  ·unfold ext dn
   rw[aY,pairwise_map];refine List.pairwise_lt_range.imp λ {a b} h=>?_;show yj (w++[z.getD (k+1) 0-(b:Int)]) (w++[z.getD (k+1) 0-(a:Int)])=true;rw[OB];exact ax (by lia)
  ·refine List.Pairwise.imp_of_mem ?_ i
   intro a b l j H x g y f;obtain⟨v,_,rfl⟩:=Yl.mp g;obtain⟨d,_,rfl⟩:=Yl.mp f;exact(Nz d v b a (by rw[(sh a l).1,(sh b j).1]) λe=>Xb H e.symm).trans H
def DI {p:Nat->List Int->Bool}(H:Zs K z)(k:Nat)(a:k<K):(ZD p z k).Nodup:=(Kj H k a).imp λh e=>Xb h e
theorem Ug  [DecidableEq α]:∀{l k:List α},l.Nodup->k.Nodup->(∀a,a∈l↔a∈k)->l.Perm k
 |[],k,_,_,h=>by
  cases k with|nil=>exact List.Perm.refl _|cons a k=>exact absurd ((h a).mpr (aF ..)) bE
 |a::l,k,H,c,h=>by
  have f:a∈k:=(h a).mp (aF ..);refine List.Perm.trans ?_ (List.perm_cons_erase f).symm;refine List.Perm.cons a (Ug (List.nodup_cons.mp H).2 (c.erase a) λb=>?_);rw[c.mem_erase_iff]
  constructor
  ·intro d
   exact⟨λe=>(List.nodup_cons.mp H).1 (e ▸ d),(h b).mp (aA _ d)⟩
  ·rintro⟨j,i⟩
   rcases cm.mp ((h b).mpr i) with rfl|g
   ·exact absurd rfl j
   ·exact g
end
theorem Xg  [BEq α] [LawfulBEq α] [DecidableEq α] (f:Nat->α)(v:α):∀n:Nat,((((List.range n).map f).count v:Nat):Int)=sm n λc=>if f c=v then 1 else 0
 |0=>rfl|n+1=>by
  rw[bj,aN,List.count_append,wO,<- Xg f v n,aQ,map_nil,List.count_singleton]
  by_cases h:f n=v
  ·rw[ai h,ai (aK.mpr h)]
   rfl
  ·rw[aj h,aj (λq=>h (aK.mp q))]
   rfl
section
variable {y z v:bN}{a b c e j k K:Nat}{S:Nat->List (bN)}
def lR (d:qj t)(H:a<t.length)(h:b<t.length)(i j:Nat):shr t a b t.length i j=sm t.length λc=>if (at2 t a c,at2 t b c)=((i:Int),(j:Int)) then 1 else 0:=by rw[Ye d H h t.length (ao _) i j];exact Xg (λc=>(at2 t a c,at2 t b c)) _ _
def Yu (g:∀a b,a<t.length->b<t.length->jh t K a b=S (at2 t a b).toNat)(l:qj t)(H:a<t.length)(h:b<t.length)(e:at2 t a b=(k:Int))(f:i<K)(d:j<K):at2 (S k) i j=sm t.length λc=>if (at2 t a c,at2 t b c)=((i:Int),(j:Int)) then 1 else 0:=by
 have:=g a b H h
 rw[e,aB]at this;rw[<- this];unfold jh;rw[Kx f d,lR l H h]
def Az (l:∀a b,a<t.length->b<t.length->jh t K a b=S (at2 t a b).toNat)(r:qj t)(p:qh t=(K:Int))(o:k<K)(g:i<K)(f:j<K):at2 (S k) i j=at2 (S k) j i:=by
 obtain⟨a,b,d,H,e⟩:=Qa r (v:=k) (by lia)
 rw[Yu l r d H e g f,Yu l r H d ((r.sy b a H d).trans e) f g];refine yq λc _=>?_
 by_cases q:(at2 t a c,at2 t b c)=((i:Int),(j:Int))
 ·rw[ai q,ai (by injection q with n Q;rw[n,Q])]
 ·rw[aj q,aj (λh=>q (by injection h with w u;rw[w,u]))]
def nb (t:bM)(a i:Nat):Int:=sm t.length λc=>if at2 t a c=(i:Int) then 1 else 0
def Nt (f:qj t)(s:jK t)(e:a<t.length)(H:b<t.length)(i:Nat):nb t a i=nb t b i:=by
 have d:at2 t a a=at2 t b b:=by rw[(f.dg a a e e).mpr rfl,(f.dg b b H H).mpr rfl]
 have p:=s a a b b e e H H d;have h:∀q:Nat,nb t q i=((((g7 t q q).count ((i:Int),(i:Int)):Nat)):Int):=λq=>by
  unfold g7 nb;rw[Xg];refine yq λc _=>?_
  by_cases h:at2 t q c=(i:Int)
  ·rw[ai h,ai (by rw[h])]
  ·rw[aj h,aj (λz=>h (by injection z))]
 rw[h,h,p.count_eq]
def Cn (r:∀a b,a<t.length->b<t.length->jh t K a b=S (at2 t a b).toNat)(v:qj t)(f:i<K)(o:j<K)(d:k<K):nb t 0 k * at2 (S k) i j=nb t 0 i * at2 (S i) k j:=by
 have N:=v.n1;have h:∀{p q:Nat},p<K->q<K->nb t 0 p * at2 (S p) q j=sm t.length λb=>sm t.length λc=>if at2 t 0 b=(p:Int)/\at2 t 0 c=(q:Int)/\at2 t b c=(j:Int) then 1 else 0:=λ {p q} u n=>by
  unfold nb;rw[<- Ag];refine yq λb H=>?_
  by_cases e:at2 t 0 b=(p:Int)
  ·rw[ai e,Int.one_mul,Yu r v N H e n o]
   refine yq λc _=>?_
   by_cases z:(at2 t 0 c,at2 t b c)=((q:Int),(j:Int))
   ·rw[ai z,ai (by injection z with l Z;exact⟨e,l,Z⟩)]
   ·rw[aj z,aj (λy=>z (by rw[y.2.1,y.2.2]))]
  ·rw[aj e,zero_mul]
   exact((yq λc _=>by rw[aj (λy=>e y.1)]).trans (UX _)).symm
 rw[h d f,h f d,U2];refine yq λb H=>yq λc g=>?_
 by_cases z:at2 t 0 c=(k:Int)/\at2 t 0 b=(i:Int)/\at2 t c b=(j:Int)
 ·rw[ai z,ai ⟨z.2.1,z.1,(v.sy b c H g).trans z.2.2⟩]
 ·rw[aj z,aj (λy=>z ⟨y.2.1,y.1,(v.sy c b g H).trans y.2.2⟩)]
def O2 (f:qj t)(d:qh t=(K:Int))(a:b<t.length)(H:c<t.length)(v:Int):sm K (λj=>if at2 t b c=(j:Int) then v else 0)=v:=by
 have h:=Jr f d a H;refine(yq λj _=>?_).trans (NR h.2 v)
 by_cases q:at2 t b c=(j:Int)
 ·rw[ai q,ai (by rw[q,aB])]
 ·rw[aj q,aj (λe=>q (by rw[<- h.1,e]))]
def AY (l:∀a b,a<t.length->b<t.length->jh t K a b=S (at2 t a b).toNat)(p:qj t)(s:jK t)(n:qh t=(K:Int))(o:k<K)(f:i<K):sm K (λj=>at2 (S k) i j)=nb t 0 i:=by
 obtain⟨a,b,H,h,e⟩:=Qa p (v:=k) (by lia)
 rw[Nt p s p.n1 H i,yq λj d=>Yu l p H h e f d,U2];unfold nb;refine yq λc g=>?_;rw[<- O2 p n h g (if at2 t a c=(i:Int) then 1 else 0)];refine yq λj _=>?_
 by_cases q:at2 t a c=(i:Int)
 ·rw[ai q]
  by_cases r:at2 t b c=(j:Int)
  ·rw[ai r,ai (by rw[q,r])]
  ·rw[aj r,aj (λz=>r (by injection z))]
 ·rw[aj (λz=>q (by injection z))]
  by_cases r:at2 t b c=(j:Int)
  ·rw[ai r,aj q]
  ·rw[aj r]
def lS (a:qj t)(H:qh t=(K:Int)):sm K (λk=>nb t 0 k)=(t.length:Int):=by
 unfold nb;rw[U2,yq λc h=>O2 a H a.n1 h 1];generalize t.length=n
 induction n with|zero=>rfl|succ n i=>rw[wO,i];lia
def lT (H:qj t):nb t 0 0=1:=by
 unfold nb;refine(yq λc h=>?_).trans (NR H.n1 1)
 by_cases q:c=0
 ·subst q
  exact(ai ((H.dg 0 0 H.n1 H.n1).mpr rfl)).trans (ai rfl).symm
 ·exact(aj (λe=>q ((H.dg 0 c H.n1 h).mp e).symm)).trans (aj q).symm
def Ob (b:qj t)(H:a<t.length):t.getD a []=(List.range t.length).map λc=>at2 t a c:=by
 have h:=b.sq _ (yY H);refine a9 (by rw[ag,aI,h]) λc d e=>?_
 rw[getElem_map,getElem_range];unfold at2;rw[aa (l:=t.getD a []),ae d]
 rfl
def Js (H:qj t)(h:k<K):(qz t K).getD k 0=nb t 0 k:=by unfold qz;rw[aa,av,aU h];show(((t.getD 0 []).count (k:Int):Nat):Int)=_;rw[Ob H H.n1];exact Xg (λc=>at2 t 0 c) (k:Int) t.length
def UT:(qz t K).length=K:=by unfold qz;rw[ag,aI]
end
section
variable {a b j k K:Nat}
def SL (t:bM)(K:Nat):List (bM):=(List.range K).map λ(k:Nat)=>jh t K (ZS t (k:Int)/t.length) (ZS t (k:Int)%t.length)
def Na (g:qj t)(f:qh t=(K:Int))(d:k<K):ZS t (k:Int)/t.length<t.length/\ZS t (k:Int)%t.length<t.length/\at2 t (ZS t (k:Int)/t.length) (ZS t (k:Int)%t.length)=(k:Int):=by
 have n:=g.n1;obtain⟨a,b,c,H,e⟩:=Qa g (v:=k) (by lia)
 have h:a * t.length+b<t.length * t.length:=by
  have i:a * t.length+t.length<=t.length * t.length:=by
   have:(a+1) * t.length<=t.length * t.length:=Nat.mul_le_mul_right _ c
   rwa[Nat.add_mul,Nat.one_mul]at this
  lia
 have l:(a * t.length+b)/t.length=a:=by rw[mul_comm,Nat.mul_add_div n,Nat.div_eq_of_lt H,Nat.add_zero]
 have j:(a * t.length+b)%t.length=b:=by rw[mul_comm,Nat.mul_add_mod,Nat.mod_eq_of_lt H]
 unfold ZS;cases hf:(List.range (t.length * t.length)).find? λm=>decide (at2 t (m/t.length) (m%t.length)=(k:Int)) with
 |none=>
  have:=List.find?_eq_none.mp hf (a * t.length+b) (cf.mpr h)
  rw[l,j,e]at this;simp at this
 |some m=>
  have i:=List.find?_some hf;have o:=cf.mp (List.mem_of_find?_eq_some hf);exact⟨Nat.div_lt_of_lt_mul o,Nat.mod_lt _ n,of_decide_eq_true i⟩
def Tj:(SL t K).length=K:=by unfold SL;rw[ag,aI]
def lU (h:k<K):(SL t K).getD k []=jh t K (ZS t (k:Int)/t.length) (ZS t (k:Int)%t.length):=by
 unfold SL;rw[aa,av,aU h]
 rfl
def Wd (f:qj t)(s:jK t)(c:qh t=(K:Int))(a b:Nat)(H:a<t.length)(h:b<t.length):jh t K a b=(λk=>(SL t K).getD k []) (at2 t a b).toNat:=by have n:=Jr f c H h;obtain⟨e,d,r⟩:=Na f c n.2;show _=(SL t K).getD _ [];rw[lU n.2];exact Om f s H h e d (by rw[r];exact n.1.symm)
def K5 (f:qj t)(s:jK t)(H:qh t=(K:Int)):Zs K (qz t K):=by
 have kb:=kg f;have n:=f.n8;refine⟨UT,λv a=>?_,?_,?_⟩
 ·obtain⟨k,h,rfl⟩:=cn.mp a
  have h:=cf.mp h;obtain⟨b,d,e⟩:=lP f s H h;have j:(k:Int)∈t.getD 0 []:=by rw[Ob f f.n1];exact cn.mpr ⟨b,cf.mpr d,e⟩
  have:=List.count_pos_iff.mpr j
  lia
 ·have:(qz t K).sum=sm K λk=>nb t 0 k:=by
   unfold sm
   congr 1
   refine a9 (by rw[UT,ag,aI]) λi g l=>?_
   have c:i<K:=by rw[UT]at g;exact g
   rw[getElem_map,getElem_range,<- Js f c,aa,ae g]
   rfl
  rw[this,lS f H];lia
 ·rw[Js f (by lia),lT f]
def lV (y:qj t)(s:jK t)(u:qh t=(K:Int)):Wf K (SL t K):=by
 have N:=y.n8;have g:∀m∈SL t K,∃a b,a<t.length/\b<t.length/\m=jh t K a b:=λm x=>by obtain⟨k,n,rfl⟩:=cn.mp x;obtain⟨f,r,_⟩:=Na y u (cf.mp n);exact⟨_,_,f,r,rfl⟩
 refine⟨Tj,λm x=>?_,λm x=>?_,λm x i j=>?_⟩
 ·obtain⟨a,b,_,_,rfl⟩:=g m x
  exact GD
 ·obtain⟨a,b,_,_,rfl⟩:=g m x
  intro q d;unfold jh jT at d;obtain⟨i,_,rfl⟩:=cn.mp d;rw[ag,aI]
 ·obtain⟨a,b,p,o,rfl⟩:=g m x
  by_cases h:i<K/\j<K
  ·unfold jh
   rw[Kx h.1 h.2,Ye y p o _ (ao _)]
   have:=List.count_le_length (a:=((i:Int),(j:Int))) (l:=(List.range t.length).map λc=>(at2 t a c,at2 t b c))
   rw[ag,aI]at this;lia
  ·have:at2 (jh t K a b) i j=0:=by
    unfold at2
    by_cases z:i<K
    ·have w:¬j<K:=λq=>h ⟨z,q⟩
     have v:((jh t K a b).getD i []).length=K:=by
      have H:(jh t K a b).getD i []∈jh t K a b:=yY (by unfold jh;rw[GD];exact z)
      unfold jh jT at H;obtain⟨q,_,e⟩:=cn.mp H;unfold jh jT;rw[<- e,ag,aI]
     rw[aa (l:=(jh t K a b).getD i []),az (by lia)]
     rfl
    ·rw[aa (l:=jh t K a b),az (by unfold jh;rw[GD];lia)]
     rfl
   lia
def lW (H:qj t)(s:jK t)(h:qh t=(K:Int)):Dt t K (SL t K) (qz t K):=by
 have kb:=kg H;have l:=Xc H;have n:=H.n8;refine⟨H,h,s,λA=>?_,λA=>AS H h A,lV H s h,K5 H s h,by lia,by lia⟩
 rw[DM (S:=λk=>(SL t K).getD k []) H h (Wd H s h) A,Y9 (SL t K) [] zo,Tj]
def lX (d:qj t)(s:jK t)(c:qh t=(K:Int)):Full K (SL t K) (qz t K):=λi j a H=>by
 have b:=Wd d s c;rw[Js d a,Js d H];have e:(sm K λk=>pS (SL t K) k i j * (qz t K).getD k 0)=sm K λk=>nb t 0 i * at2 ((SL t K).getD i []) k j:=yq λk h=>by rw[Js d h,Int.mul_comm];exact Cn (S:=λk=>(SL t K).getD k []) b d a H h
 rw[e,Ms,yq λk h=>Az (S:=λk=>(SL t K).getD k []) b d c a h H,AY (S:=λk=>(SL t K).getD k []) b d s c a H]
variable {T:bM}{c e m v:Nat}{p o:bS}{q l x:bN}
def Mw:(ji p).getD 0 0=0:=rfl
def My (H:p.Perm (List.range m))(b:k<=m):0<=(ji p).getD k 0/\(ji p).getD k 0<=(m:Int):=by
 have a:p.length=m:=by rw[H.length_eq,aI]
 by_cases h:k=0
 ·subst h
  rw[Mw];lia
 ·rw[QL (by lia) (by lia)]
  have:=cf.mp (H.mem_iff.mp (aL (l:=p) (n:=k-1) (by lia)))
  lia
def Nx (H:p.Perm (List.range m))(a:v<=m):∃k,k<=m/\(ji p).getD k 0=(v:Int):=by
 have l:p.length=m:=by rw[H.length_eq,aI]
 by_cases h:v=0
 ·exact⟨0,by lia,by rw[Mw,h];rfl⟩
 ·obtain⟨i,b,e⟩:=a6 (H.mem_iff.mpr (cf.mpr (show v-1<m by lia)))
  refine⟨i+1,by lia,?_⟩
  rw[QL (by lia) (by lia)]
  have:p[i+1-1]'(by lia)=v-1:=e
  rw[this];lia
structure Tn (T t:bM)(K:Nat)(p o:bS):Prop where
 hT:qj T
 ht:qj t
 kT:qh T=(K:Int)
 kt:qh t=(K:Int)
 len:t.length=T.length
 pp:p.Perm (List.range (K-1))
 oo:o.Perm (List.range T.length)
 at_:∀a b,a<T.length->b<T.length->at2 t a b=(ji p).getD (at2 T (o.getD a 0) (o.getD b 0)).toNat 0
def JF (h:o.Perm (List.range n))(b:a<n):o.getD a 0<n:=by
 have H:o.length=n:=by rw[h.length_eq,aI]
 rw[aa,ae (by lia)]
 exact cf.mp (h.mem_iff.mp (aL _))
def Xw (h:o.Perm (List.range n))(d:a<n):∃b,b<n/\o.getD b 0=a:=by
 have H:o.length=n:=by rw[h.length_eq,aI]
 obtain⟨i,c,e⟩:=a6 (h.mem_iff.mpr (cf.mpr d));exact⟨i,by lia,by rw[aa,ae c];exact e⟩
def lY (hT:qj T)(f:qh T=(K:Int))(g:p.Perm (List.range (qh T-1).toNat))(H:o.Perm (List.range T.length)):Tn T (wI T p o) K p o:=by
 obtain⟨t,l⟩:=PN hT g H;have kb:=kg hT;have h:p.Perm (List.range (K-1)):=by rwa[f,show((K:Int)-1).toNat=K-1 by lia]at g
 have at_:∀a b,a<T.length->b<T.length->at2 (wI T p o) a b=(ji p).getD (at2 T (o.getD a 0) (o.getD b 0)).toNat 0:=λa b d c=>OT H d c;refine⟨hT,t,f,?_,l,h,H,at_⟩
 apply Int.le_antisymm
 ·obtain⟨a,b,d,c,e⟩:=UU t.sq (GR t)
  rw[l]at d c;rw[at_ a b d c]at e
  have:=(My h (k:=(at2 T (o.getD a 0) (o.getD b 0)).toNat) (by have:=(Jr hT f (JF H d) (JF H c)).2;lia)).2
  lia
 ·obtain⟨k,n,e⟩:=Nx h (v:=K-1) (ao _)
  obtain⟨x,y,j,i,E⟩:=Qa hT (v:=k) (by lia)
  obtain⟨a,d,rfl⟩:=Xw H j;obtain⟨b,c,rfl⟩:=Xw H i
  have:=KP t (a:=a) (b:=b) (by lia) (by lia)
  rw[at_ a b d c,E,aB,e]at this;lia
def OH:∀{l k:bN},l.Perm k->l.sum=k.sum:=λh=>by
 induction h with|nil=>rfl|cons x _ a=>rw[sum_cons,sum_cons,a]|swap x y l=>rw[sum_cons,sum_cons,sum_cons,sum_cons];lia|trans _ _ I i=>exact I.trans i
def Lw (H:o.Perm (List.range n))(g:Nat->Int):sm n (λc=>g (o.getD c 0))=sm n g:=by
 have h:o.length=n:=by rw[H.length_eq,aI]
 unfold sm
 have:=Y9 o 0 g
 rw[h]at this;rw[<- this];exact OH (H.map g)
def pi (p:bS)(k:Nat):Nat:=((ji p).getD k 0).toNat
def Zv (h:Tn T t K p o)(H:k<K):((pi p k:Nat):Int)=(ji p).getD k 0/\pi p k<K:=by
 have kb:=kg h.hT;have a:=h.kT
 have:=My h.pp (k:=k) (by lia)
 unfold pi;lia
def Tp (h:Tn T t K p o)(H:k<K)(a:j<K)(e:pi p k=pi p j):k=j:=by
 have c:=(Zv h H).1;have b:=(Zv h a).1;have P:p.length=K-1:=by rw[h.pp.length_eq,aI]
 exact Ny ((h.pp.nodup_iff).mpr nodup_range) (by lia) (by lia) (by rw[<- c,<- b,e])
def Yx (h:Tn T t K p o)(a:m<K):∃k,k<K/\pi p k=m:=by
 obtain⟨k,H,e⟩:=Nx h.pp (v:=m) (by lia)
 exact⟨k,by lia,by unfold pi;rw[e,aB]⟩
def lZ (h:Tn T t K p o)(g:Nat->Int):sm K (λk=>g (pi p k))=sm K g:=by
 have d:((List.range K).map (pi p)).Perm (List.range K):=by
  refine Ug ?_ nodup_range λm=>?_
  ·rw[List.Nodup,pairwise_map]
   exact List.Pairwise.imp_of_mem (λ {a b} i f c e=>c (Tp h (cf.mp i) (cf.mp f) e)) nodup_range
  ·rw[mem_map,List.mem_range]
   exact⟨λ⟨k,H,e⟩=>e ▸ (Zv h (cf.mp H)).2,λj=>let ⟨k,H,e⟩:=Yx h j;⟨k,cf.mpr H,e⟩⟩
 unfold sm
 have:=OH (d.map g)
 rw[aY]at this;exact this
def l0 (h:Tn T t K p o)(c:a<T.length)(H:b<T.length):at2 t a b=((pi p (at2 T (o.getD a 0) (o.getD b 0)).toNat:Nat):Int):=by rw[h.at_ a b c H,(Zv h (Jr h.hT h.kT (JF h.oo c) (JF h.oo H)).2).1]
def Xt (h:Tn T t K p o)(c:a<T.length)(H:b<T.length)(d:k<K):at2 t a b=((pi p k:Nat):Int)↔at2 T (o.getD a 0) (o.getD b 0)=(k:Int):=by
 have n:=Jr h.hT h.kT (JF h.oo c) (JF h.oo H);rw[l0 h c H]
 constructor
 ·intro e
  have:=Tp h n.2 d (by lia)
  lia
 ·intro e
  rw[e,aB]
def l6 (h:Tn T t K p o)(C:jK T)(E:jK t)(D:k<K)(d:i<K)(H:j<K):pS (SL t K) (pi p k) (pi p i) (pi p j)=pS (SL T K) k i j:=by
 have I:=h.kT;obtain⟨x,y,w,u,e⟩:=Qa h.hT (v:=k) (by lia)
 obtain⟨a,n,rfl⟩:=Xw h.oo w;obtain⟨b,g,rfl⟩:=Xw h.oo u;have l:a<t.length:=by rw[h.len];exact n
 have f:b<t.length:=by rw[h.len];exact g
 refine(Yu (S:=λk=>(SL t K).getD k []) (Wd h.ht E h.kt) h.ht l f ((Xt h n g D).mpr e) (Zv h d).2 (Zv h H).2).trans (Eq.trans ?_ (Yu (S:=λk=>(SL T K).getD k []) (Wd h.hT C h.kT) h.hT w u e d H).symm);rw[h.len];rw[<- Lw h.oo λc=>if (at2 T (o.getD a 0) c,at2 T (o.getD b 0) c)=((i:Int),(j:Int)) then 1 else 0];refine yq λc A=>?_;have r:=Xt h n A d;have Q:=Xt h g A H
 by_cases z:(at2 T (o.getD a 0) (o.getD c 0),at2 T (o.getD b 0) (o.getD c 0))=((i:Int),(j:Int))
 ·injection z with q Z
  rw[ai (by rw[r.mpr q,Q.mpr Z]),ai (by rw[q,Z])]
 ·rw[aj (λy=>z (by injection y with B Y;rw[r.mp B,Q.mp Y])),aj z]
def l7 (h:Tn T t K p o)(S:jK T)(H:k<K):nb t 0 (pi p k)=nb T 0 k:=by
 have n:=h.hT.n1;rw[Nt h.hT S n (JF h.oo n) k];unfold nb;rw[h.len,<- Lw h.oo λc=>if at2 T (o.getD 0 0) c=(k:Int) then 1 else 0];refine yq λc a=>?_;have q:=Xt h n a H
 by_cases z:at2 T (o.getD 0 0) (o.getD c 0)=(k:Int)
 ·rw[ai z,ai (q.mpr z)]
 ·rw[aj z,aj λy=>z (q.mp y)]
def N6 (h:Tn T t K p o)(S:jK T)(H:k<K):(qz t K).getD (pi p k) 0=(qz T K).getD k 0:=by rw[Js h.ht (Zv h H).2,Js h.hT H,l7 h S H]
variable {w z:bN}
abbrev Rw (t:bM)(K:Nat):bM:=yD (SL t K) (qz t K) (K-1)
def Ll (a:qj t)(s:jK t)(H:qh t=(K:Int))(b:K=1):pS (SL t K) 0 0 0=1:=by
 subst b
 have:=lX a s H 0 0 (by lia) (by lia)
 rw[(K5 a s H).h,wO,(K5 a s H).h]at this;have e:sm 0 (λk=>pS (SL t 1) k 0 0 * (qz t 1).getD k 0)=0:=rfl;rw[e]at this;lia
def Zn (H:qj t)(s:jK t)(h:qh t=(K:Int)):w∈Rw t K↔Wt K (SL t K) (qz t K) w:=by have kb:=kg H;exact Nc (K5 H s h) Tj (by lia) (Ll H s h)
def Mv (H:qj t)(s:jK t)(h:qh t=(K:Int)):(Rw t K).Nodup:=by have kb:=kg H;exact DI (K5 H s h) (K-1) (by lia)
def ps (p:bS)(K:Nat)(w:bN):bN:=(List.range K).map λk=>w.getD (pi p k) 0
def ZQ (h:k<K):(ps p K w).getD k 0=w.getD (pi p k) 0:=by
 unfold ps;rw[aa,av,aU h]
 rfl
def NW:(ps p K w).length=K:=by unfold ps;rw[ag,aI]
def MH (c:w.length=K)(H:x.length=K)(h:∀k,k<K->w.getD k 0=x.getD k 0):w=x:=by
 refine a9 (by lia) λi b a=>?_
 have:=h i (by lia)
 rw[aa,ae b,aa,ae a]at this;exact this
def Lv (h:Tn T t K p o):pi p 0=0:=rfl
def MB (h:Tn T t K p o)(S:jK T)(n:jK t)(q:w.length=K):Wt K (SL t K) (qz t K) w↔Wt K (SL T K) (qz T K) (ps p K w):=by
 have kb:=kg h.hT;have r:=h.kT;have l:Full K (SL t K) w↔Full K (SL T K) (ps p K w):=by
  have y:∀i j,i<K->j<K->((w.getD (pi p i) 0 * w.getD (pi p j) 0=sm K λk=>pS (SL t K) k (pi p i) (pi p j) * w.getD k 0)↔(ps p K w).getD i 0 * (ps p K w).getD j 0=sm K λk=>pS (SL T K) k i j * (ps p K w).getD k 0):=λi j a c=>by rw[ZQ a,ZQ c,<- lZ h λk=>pS (SL t K) k (pi p i) (pi p j) * w.getD k 0];rw[show(sm K λk=>pS (SL t K) (pi p k) (pi p i) (pi p j) * w.getD (pi p k) 0)=sm K λk=>pS (SL T K) k i j * (ps p K w).getD k 0 from yq λk e=>by rw[l6 h S n e a c,ZQ e]]
  constructor
  ·intro g i j a c
   exact(y i j a c).mp (g _ _ (Zv h a).2 (Zv h c).2)
  ·intro g i j a c
   obtain⟨I,H,rfl⟩:=Yx h a;obtain⟨J,d,rfl⟩:=Yx h c;exact(y I J H d).mpr (g I J H d)
 constructor
 ·intro g
  refine⟨NW,by rw[ZQ (by lia),Lv h];exact g.o,λi a=>?_,l.mp g.f⟩
  rw[ZQ a,<- N6 h S a];exact g.b _ (Zv h a).2
 ·intro g
  refine⟨q,?_,λi a=>?_,l.mpr g.f⟩
  ·have:=g.o
   rwa[ZQ (by lia),Lv h]at this
  ·obtain⟨I,H,rfl⟩:=Yx h a
   have:=g.b I H
   rwa[ZQ H,<- N6 h S H]at this
def l8 (h:Tn T t K p o)(d:w.length=K):∃x:bN,x.length=K/\ps p K x=w:=by
 have C:∀m:Nat,∃k:Nat,m<K->k<K/\pi p k=m:=λm=>by
  by_cases c:m<K
  ·obtain⟨k,f,e⟩:=Yx h c
   exact⟨k,λ_=>⟨f,e⟩⟩
  ·exact⟨0,λz=>absurd z c⟩
 obtain⟨q,b⟩:=Classical.axiomOfChoice C;refine⟨(List.range K).map λm=>w.getD (q m) 0,by rw[ag,aI],MH NW d λk H=>?_⟩
 have P:=(Zv h H).2;rw[ZQ H,aa (l:=List.map _ _),av,aU P];show w.getD (q (pi p k)) 0=_;obtain⟨a,Q⟩:=b (pi p k) P;rw[Tp h a H Q]
def l9 (h:Tn T t K p o)(S:jK T)(n:jK t):((Rw t K).map (ps p K)).Perm (Rw T K):=by
 refine Ug ?_ (Mv h.hT S h.kT) λw=>?_
 ·rw[List.Nodup,pairwise_map]
  refine List.Pairwise.imp_of_mem (λ {a b} j i c e=>c ?_) (Mv h.ht n h.kt);have f:=((Zn h.ht n h.kt).mp j).l;have L:=((Zn h.ht n h.kt).mp i).l;refine MH f L λm q=>?_;obtain⟨k,d,rfl⟩:=Yx h q;rw[<- ZQ d,<- ZQ d,e]
 ·rw[Zn h.hT S h.kT,mem_map]
  constructor
  ·rintro⟨x,H,rfl⟩
   have g:=(Zn h.ht n h.kt).mp H;exact(MB h S n g.l).mp g
  ·intro g
   obtain⟨x,H,rfl⟩:=l8 h g.l;exact⟨x,(Zn h.ht n h.kt).mpr ((MB h S n H).mpr g),rfl⟩
end
section
variable {w z:bN}{b k K:Nat}{S:List (bM)}
def getD_mem (h:k<w.length):w.getD k 0∈w:=by rw[aa,ae h];exact aL _
def mem_getD {v:Int}(h:v∈w):∃k,k<w.length/\w.getD k 0=v:=by obtain⟨k,H,e⟩:=a6 h;exact⟨k,H,by rw[aa,ae H];exact e⟩
def Wt.sm (h:Wt K S z w)(a:Zs K z):∀v∈w,-9<v/\v<9:=λv c=>by
 obtain⟨k,d,rfl⟩:=mem_getD c;have H:k<K:=by rw[<- h.l];exact d
 have:=h.b k H
 have:=a.le H
 lia
def NP (d:Dt t K S z)(A:Hx):Vy [zo t] A=.ok (.bl (decide ((yD S z (K-1)).length=K))) (A++[.lst ((yD S z (K-1)).map zq)]):=by
 refine Nh ?_;dsimp only[WT];refine(zy (Zm ((zR (zr (zh rfl) zJ)).trans (lz d.tab d.kd d.sd A)))).trans ?_;have E:mQ qe (zZ (zU WS (zi zH zu))) [some (zo t)] A=.ok (.int ((yD S z (K-1)).length:Int)) (A++[.lst ((yD S z (K-1)).map zq)]):=by
  refine(jF (yr ((zR (zr (zh rfl) zJ)).trans (Ow d A)) (by unfold zK;dsimp only;rw[qH]))).trans ?_
  unfold qe;rw[ag]
 refine Z9 (qp (qI ((zA E ((zR (zr (zh rfl) zJ)).trans (KJ d.tab _))).trans ?_)));rw[d.kd,gL]
 congr 2
 exact decide_eq_decide.mpr ⟨λe=>by lia,λe=>by lia⟩
end
def Th (l:A.length<=B.length)(h:∀q,q<A.length->B[q]? =A[q]?):Ext A B:=⟨B.drop A.length,by
 apply ext_getElem?
 intro q
 by_cases H:q<A.length
 ·rw[ah H]
  exact h q H
 ·rw[ar (by lia),List.getElem?_drop]
  congr 1
  lia⟩
def Oj {l:bS}{x y:Nat}(h:x<l.length):(l++[y]).getD x 0=l.getD x 0:=by rw[aa,ah h,<- aa]
def OU {l:bS}{y:Nat}:(l++[y]).getD l.length 0=y:=by
 rw[aa,ar (ao _),sub_self]
 rfl
def Sh (B:Hx)(l r K:Nat)(M:bM):Prop:=l<=r/\∃I:bS,B[r]? =some (.lst (I.map W.ref))/\I.length=K/\∀i,i<K->l<=I.getD i 0/\B[I.getD i 0]? =some (.lst ((M.getD i []).map W.int))
def Sh.mono {C:Hx}{L l r K:Nat}{M:bM}(h:Sh B L r K M)(b:l<=L)(g:∀q o,l<=q->B[q]? =some o->C[q]? =some o):Sh C l r K M:=by obtain⟨e,I,d,c,a⟩:=h;exact⟨by lia,I,g _ _ (by lia) d,c,λi H=>⟨by have:=(a i H).1;lia,g _ _ (by have:=(a i H).1;lia) (a i H).2⟩⟩
def md {a b:Ev}{e:Hx}{y:W}(c:a ρ A=.ok (.ref n) A1)(d:A1[n]? =some (.lst ws))(H:b ρ A1=.ok y e):yM g a b ρ A=g (.ref n) y e:=by
 unfold yM;have h:Q4 (.ref n) A1=true:=by unfold Q4;dsimp only;rw[d]
 rw[c,zI,ai h,H,zI]
section
variable {a b j k K:Nat}
abbrev fs (t:bM)(a b:Nat)(e d c X x:Option W):En:=[some (zo t),iO a,iO b,e,d,c,X,x]
def WC (t:bM)(a b i j:Nat):Int:=shr t a b t.length i j
abbrev cE:Ev:=yM Yp (jN (qy 1 [0,1,2,5,7] (jM (mQ qe (zZ zH))) (zN 0) q9 (ql (kR (zj yd (zj zD (zj zD zF qc) zH) qv) (zj yd (zj zD (zj zD zF qi) zH) jw))))) q9
theorem N0 (p:Nat->Bool):∀(l:bS),(l.map λc=>W.bl (p c)).countP (λw=>Jz w (.bl true))=l.countP p
 |[]=>rfl|x::l=>by
  rw[aQ,bG,bG,N0 p l]
  congr 2
  cases p x<;>rfl
def mf (h:qj t)(f:a<t.length)(e:b<t.length){y4 y6:Option W}{x3:Option W}:∃l,cE (fs t a b x3 y4 (iO i) y6 (iO j)) A=.ok (.int (WC t a b i j)) (A++[.lst l]):=by
 have o:=h.n8;generalize H:(fs t a b x3 y4 (iO i) y6 (iO j))=ρ;have E:=gr (cap:=[0,1,2,5,7]) (mi:=jM (mQ qe (zZ zH))) (ρ:=ρ) (A:=A) (N:=t.length) (item:=λc=>.int (0+(c:Int))) (g:=λc=>.bl (decide (at2 t a c=(i:Int))&&decide (at2 t b c=(j:Int))))
  (me:=kR (zj yd (zj zD (zj zD zF qc) zH) qv) (zj yd (zj zD (zj zD zF qi) zH) jw))
  (yG (len_tab (by rw[<- H];rfl)) (Jb (by lia))) (by rw[aB];rfl) (by unfold zT;lia) (λc d=>by rw[aB];exact j8 d) (by rw[aB];exact j7 (by lia))
  (λc d=>by rw[<- H,Int.zero_add];exact K9 ((zA (X9 h (zh rfl) (zh rfl) (zh rfl) f d) (zh rfl)).trans (gL _ _ _)) ((zA (X9 h (zh rfl) (zh rfl) (zh rfl) e d) (zh rfl)).trans (gL _ _ _)))
 refine⟨(List.range t.length).map λc=>W.bl (decide (at2 t a c=(i:Int))&&decide (at2 t b c=(j:Int))),(md (yW E) qH zP).trans ?_⟩;unfold Yp;dsimp only;rw[qH];dsimp only;rw[ai]
 ·congr 2
  rw[GP,N0,zero_add];unfold WC;rw[Ye h f e _ (ao _)]
  congr 1
  rw[List.count,List.countP_map];refine List.countP_congr λc _=>?_;simp only[Function.comp,ak,aq,aK,Prod.mk.injEq]
 ·rw[ak,aZ]
  refine⟨rfl,λw n=>?_⟩;obtain⟨c,_,rfl⟩:=cn.mp n
  rfl
def mh (h:qj t)(z:qh t=(K:Int))(v:a<t.length)(u:b<t.length)(A:Hx):∃B,VZ [zo t,.int (a:Int),.int (b:Int)] A=.ok (.ref A.length) B/\Ext A B/\Sh B A.length A.length K (jh t K a b):=by
 have kb:=kg h;have L:=Xc h;have n8:=h.n8;have kn:jl (K:Int)=true:=Jb (by lia)
 obtain⟨o,B,e,M,U,T,Y,rfl,S,g2,Z,n⟩:=ye (j:=jG 0 K) (st:=turn (zN 5) (zG (qu 6 (qL zu)) (zG (jA (jM qi) (zN 7) (zG (wz (yM wc yB cE)) zX)) (zG (wz (yM wc qv yB)) zX)))) (N:=K)
  (I:=λi P B=>∃(M:bS) (U T Y:Option W),P=(fs t a b (iO K) (rO A.length) U T Y)/\B[A.length]? =some (.lst (M.map W.ref))/\M.length=i/\(∀x,x<i->A.length<M.getD x 0/\B[M.getD x 0]? =some (.lst ((List.range K).map λj=>W.int (WC t a b x j))))/\∀q,q<A.length->B[q]? =A[q]?)
  (λi P D f ⟨M,U,T,Y,H,S,g2,Z,n⟩=>by
   subst H;have d:=jU S;refine⟨.int (0+(i:Int)),?_⟩;rw[Int.zero_add];obtain⟨ρ1,B,J,y,rfl,X,Q,k3⟩:=ye (j:=jG 0 K) (st:=turn (zN 7) (zG (wz (yM wc yB cE)) zX)) (N:=K)
    (I:=λj P B=>∃Y,P=(fs t a b (iO K) (rO A.length) (iO i) (rO D.length) Y)/\B[D.length]? =some (.lst ((List.range j).map λj=>W.int (WC t a b i j)))/\(∀q,q<D.length->B[q]? =D[q]?)/\D.length<B.length)
    (λj P B r ⟨Y,H,X,Q,k3⟩=>by
     subst H;obtain⟨l,C⟩:=mf (A:=B) (i:=i) (j:=j) h v u (y4:=rO A.length) (y6:=rO D.length) (x3:=iO K);refine⟨.int (0+(j:Int)),(fs t a b (iO K) (rO A.length) (iO i) (rO D.length) (iO j)),(B++[O.lst l]).set D.length (O.lst ((List.range (j+1)).map λj=>W.int (WC t a b i j))),j8 r,?_,_,rfl,?_,λq c=>?_,?_⟩
     ·rw[Int.zero_add]
      refine(jB rfl).trans ((zy (Zm (w:=.non) ((Jj (zh rfl) X C).trans ((Gq (jq X) (by simp;lia)).trans ?_)))).trans qx)
      rw[bj,aN]
      rfl
     ·exact aw (by simp;lia)
     ·rw[au (by lia),ah (by lia)]
      exact Q q c
     ·simp;lia)
    (λP B _=>j7 (by lia)) K 0 (fs t a b (iO K) (rO A.length) (iO i) (rO D.length) Y) (D++[O.lst []]) (by lia) ⟨Y,rfl,qH,λq c=>ah c,by simp⟩
   have E:B[A.length]? =some (.lst (M.map W.ref)):=(Q _ d).trans S;refine⟨(fs t a b (iO K) (rO A.length) (iO i) (rO D.length) y),B.set A.length (O.lst ((M++[D.length]).map W.ref)),(j8 f).trans (by rw[Int.zero_add]),?_,M++[D.length],_,_,_,rfl,?_,by rw[ay,g2];rfl,λx p=>?_,λq c=>?_⟩
   ·refine(jB rfl).trans ((zy ((qg (jI zJ)).trans rfl)).trans ((zy ((jo (yG (zh rfl) kn)).trans ?_)).trans ((zy (Zm (w:=.non) ((Jj (zh rfl) E (zh rfl)).trans ((Gq E (by simp;lia)).trans ?_)))).trans qx)))
    ·rw[aB]
     exact J
    ·rw[aN]
     rfl
   ·exact aw (by lia)
   ·by_cases g:x<i
    ·obtain⟨f1,f2⟩:=Z x g
     rw[Oj (by lia),au (by lia),Q _ (jU f2)]
     exact⟨f1,f2⟩
    ·obtain rfl:x=M.length:=by lia
     rw[OU,au (by lia),g2]
     exact⟨d,X⟩
   ·rw[au (by lia),Q _ (by lia)]
    exact n q c)
  (λP B _=>j7 (by lia)) K 0 (fs t a b (iO K) (rO A.length) none none none) (A++[O.lst []]) (by lia) ⟨[],none,none,none,rfl,qH,rfl,λx p=>by lia,λq c=>ah c⟩
 refine⟨B,qP ?_,Th (by have:=jU S;lia) n,ao _,M,S,g2,λi f=>⟨by have:=(Z i f).1;lia,(Z i f).2.trans ?_⟩⟩
 ·dsimp only[VT,mq]
  refine(zy ((qg ((zR (zr (zh rfl) zJ)).trans ((V8 h A).trans (by rw[z])))).trans rfl)).trans ((zy ((qg (jI zJ)).trans rfl)).trans ((zy (ρ1:=(fs t a b (iO K) (rO A.length) U T Y)) (A1:=B) ((jo (yG (k:=(K:Int)) (zh rfl) kn)).trans ?_)).trans (qp (qI (zh rfl)))))
  rw[aB];exact e
 ·unfold jh jT
  rw[aa,av,aU f];show _=some (O.lst (((List.range K).map (shr t a b t.length i)).map W.int));rw[aY]
  rfl
end
def Zj (S:List (bM))(K r k:Nat)(B:Hx):Prop:=∃a:bS,B[r]? =some (.lst (a.map W.ref))/\a.length=k/\∀x,x<k->Sh B (r+1) (a.getD x 0) K (S.getD x [])
section
variable {s:List (bM)}{K k a b r:Nat}{C:Hx}{u:bM}
def Zj.ext (h:Zj s K r k B)(x:Ext B C):Zj s K r k C:=let ⟨b,d,c,a⟩:=h;⟨b,x.at d,c,λy H=>(a y H).mono (ao _) λ_ _ _ e=>x.at e⟩
abbrev fo (u:bM)(n:Nat)(a X x:Option W):En:=[some (zo u),rO n,a,X,x]
def NS (u:bM)(s:List (bM))(K k:Nat)(A:Hx)(p:Nat)(B:Hx):Prop:=
 (∀q,q<A.length->B[q]? =A[q]?)/\((Zj s K A.length k B/\∀a b,a<u.length->b<u.length->a * u.length+b<p->at2 u a b≠(k:Int))∨Zj s K A.length (k+1) B)
abbrev Vf:Ex:=zG (jQ (kR (zj yd (mQ qe (zZ zF)) qc) (zj yd (zj zD (zj zD zH qi) qv) qc)) (zG (wz (yM wc zF (zU VZ (zi zH (zi qi (zi qv zu)))))) zX) zX) zX
def Jm {r:Nat}(h:ρ[i]? =some (rO r))(H:B[r]? =some (.lst ws)):mQ qe (zZ (zM i)) ρ B=.ok (.int ws.length) B:=
 (jF (yr (zh h) (by unfold zK;dsimp only;rw[H]))).trans rfl
def mj (h:qj u)(D:qh u=(K:Int))(sh:∀a b,a<u.length->b<u.length->jh u K a b=s.getD (at2 u a b).toNat [])(Y:k<K)(y:a<u.length)(f:b<u.length)(N:NS u s K k A (a * u.length+b) B):
  ∃C,Vf (fo u A.length (iO k) (iO a) (iO b)) B=.ok (.nx (fo u A.length (iO k) (iO a) (iO b))) C/\NS u s K k A (a * u.length+b+1) C:=by
 have kb:=kg h;rcases N with ⟨p,⟨⟨ks,Z,g2,g3⟩,hn⟩|⟨ks,Z,g2,g3⟩⟩
 ·have E:=Jm (ρ:=(fo u A.length (iO k) (iO a) (iO b))) (i:=1) rfl Z
  rw[ag,g2]at E;have g:=(zA E (zh (i:=2) rfl)).trans (gL (k:Int) (k:Int) B);have M:=(zA (X9 h (zh (i:=0) rfl) (zh (i:=3) rfl) (zh (i:=4) rfl) y f) (zh (ρ:=(fo u A.length (iO k) (iO a) (iO b))) (i:=2) rfl)).trans (gL (at2 u a b) (k:Int) B);have c:=K9 g M;rw[ax rfl,Bool.true_and]at c
  by_cases v:at2 u a b=(k:Int)
  ·rw[ax v]at c
   obtain⟨C,L,X,z⟩:=mh h D y f B;have c1:=X.at Z;have S:=jU Z;have Q:=X.len;rw[sh a b y f,v,aB]at z;refine⟨C.set A.length (.lst ((ks++[B.length]).map W.ref)),(zy ((kh c).trans ((zy (Zm (w:=.non) ((Jj (zh rfl) Z ((zR (zr (zh rfl) (zr (zh rfl) (zr (zh rfl) zJ)))).trans L)).trans ((Gq c1 (by rw[ag];lia)).trans ?_)))).trans qx))).trans qx,λq d=>?_,.inr ⟨ks++[B.length],?_,by rw[ay,g2];rfl,λx T=>?_⟩⟩
   ·rw[aN]
    rfl
   ·rw[au (by lia),<- p q d]
    obtain⟨l,rfl⟩:=X;exact ah (by lia)
   ·exact aw (by lia)
   ·have st:∀q o,A.length+1<=q->C[q]? =some o->(C.set A.length (.lst ((ks++[B.length]).map W.ref)))[q]? =some o:=λq o d e=>by rw[au (by lia)];exact e
    by_cases r:x<k
    ·rw[Oj (by lia)]
     exact(g3 x r).mono (ao _) λq o d e=>st q o d (X.at e)
    ·obtain rfl:x=ks.length:=by lia
     rw[OU,g2];exact z.mono (by lia) st
  ·rw[aG v]at c
   refine⟨B,(zy ((jX c).trans qx)).trans qx,p,.inl ⟨⟨ks,Z,g2,g3⟩,λn j t H U=>?_⟩⟩
   by_cases e:n * u.length+j<a * u.length+b
   ·exact hn n j t H e
   ·have P:n * u.length+j=a * u.length+b:=by lia
    have J:n=a:=by
     have h1:=congrArg (· / u.length) P
     rwa[mul_comm,Nat.mul_add_div (by lia),Nat.div_eq_of_lt H,mul_comm a,Nat.mul_add_div (by lia),Nat.div_eq_of_lt f]at h1
    subst J;have I:j=b:=by lia
    subst I;exact v
 ·have E:=Jm (ρ:=(fo u A.length (iO k) (iO a) (iO b))) (i:=1) rfl Z
  rw[ag,g2]at E;have g:=(zA E (zh (i:=2) rfl)).trans (gL ((k+1:Nat):Int) (k:Int) B);rw[aG (by lia)]at g
  exact⟨_,(zy ((jX (Ys g)).trans qx)).trans qx,p,.inr ⟨ks,Z,g2,g3⟩⟩
def La (h:qj u)(i:qh u=(K:Int))(sh:∀a b,a<u.length->b<u.length->jh u K a b=s.getD (at2 u a b).toNat [])(A:Hx):∃B,RM [zo u] A=.ok (.ref A.length) B/\Ext A B/\Zj s K A.length K B:=by
 have kb:=kg h;have n8:=h.n8;have kn:jl (K:Int)=true:=Jb (by lia)
 have U:jl (u.length:Int)=true:=Jb (by lia)
 obtain⟨o,B,e,Y,y,S,rfl,g,gN⟩:=ye (j:=jG 0 K) (st:=turn (zN 2) (zG (jA (jM (mQ qe (zZ zH))) (zN 3) (zG (jA (jM (mQ qe (zZ zH))) (zN 4) Vf) zX)) zX)) (N:=K)
  (I:=λk T B=>∃Y y S,T=(fo u A.length Y y S)/\(∀q,q<A.length->B[q]? =A[q]?)/\Zj s K A.length k B)
  (λk T B f ⟨Y,y,S,H,g,gN⟩=>by
   subst H;obtain⟨X,M,w,p,Z,rfl,n⟩:=ye (j:=jG 0 u.length) (st:=turn (zN 3) (zG (jA (jM (mQ qe (zZ zH))) (zN 4) Vf) zX)) (N:=u.length)
    (I:=λa T B=>∃y S,T=(fo u A.length (iO k) y S)/\NS u s K k A (a * u.length) B)
    (λa T B c ⟨y,S,H,N⟩=>by
     subst H;obtain⟨l,L,t,Z,rfl,J⟩:=ye (j:=jG 0 u.length) (st:=turn (zN 4) Vf) (N:=u.length)
      (I:=λb T B=>∃S,T=(fo u A.length (iO k) (iO a) S)/\NS u s K k A (a * u.length+b) B)
      (λb T B d ⟨S,H,N⟩=>by subst H;obtain⟨C,E,D⟩:=mj h i sh f c d N;exact⟨_,_,C,j8 d,(jB (by rw[Int.zero_add];rfl)).trans E,_,rfl,D⟩)
      (λT B _=>j7 (by lia)) u.length 0 (fo u A.length (iO k) (iO a) S) B (by lia) ⟨S,rfl,N⟩
     refine⟨.int (0+(a:Int)),(fo u A.length (iO k) (iO a) Z),L,j8 c,(jB (by rw[Int.zero_add];rfl)).trans ((zy ((jo (yG (len_tab rfl) U)).trans ?_)).trans qx),_,_,rfl,?_⟩
     ·rw[aB]
      exact t
     ·rw[succ_mul]
      exact J)
    (λT B _=>j7 (by lia)) u.length 0 (fo u A.length (iO k) y S) B (by lia) ⟨y,S,rfl,g,.inl ⟨gN,λa b _ _ Q=>by lia⟩⟩
   refine⟨.int (0+(k:Int)),(fo u A.length (iO k) p Z),M,j8 f,(jB (by rw[Int.zero_add];rfl)).trans ((zy ((jo (yG (len_tab rfl) U)).trans ?_)).trans qx),_,_,_,rfl,n.1,?_⟩
   ·rw[aB]
    exact w
   ·rcases n.2 with ⟨_,hn⟩|z
    ·exfalso
     obtain⟨a,b,c,d,e⟩:=Qa h (v:=k) (by lia)
     refine hn a b c d ?_ e
     have:(a+1) * u.length<=u.length * u.length:=Nat.mul_le_mul_right _ c
     rw[succ_mul]at this;lia
    ·exact z)
  (λT B _=>j7 (by lia)) K 0 (fo u A.length none none none) (A++[.lst []]) (by lia) ⟨none,none,none,rfl,λq r=>ah r,[],qH,rfl,λx P=>by lia⟩
 refine⟨B,qP ?_,Th (by obtain⟨ks,g1,_⟩:=gN;have:=jU g1;lia) g,gN⟩
 dsimp only[VL,mq];refine(zy (ρ1:=(fo u A.length none none none)) (A1:=A++[.lst []]) ((qg (jI zJ)).trans rfl)).trans ((zy (ρ1:=(fo u A.length Y y S)) (A1:=B) ((jo (yG (k:=(K:Int)) ((zR (zr (zh rfl) zJ)).trans ((V8 h _).trans (by rw[i]))) kn)).trans ?_)).trans (qp (qI (zh rfl))))
 rw[aB];exact e
end
noncomputable def Lk (i:Nat):Nat->Hx
 |0=>[.lst (ZF i 0 3)]|k+1=>Lk i k++[.lst (ZF i (3 * (k+1)) 3),.lst (ZF i 0 (3 * (k+2)))]
def GX (i:Nat):Hx:=Lk i 5++[.lst [.int i]]
noncomputable def wd (x:Str):Option Nat:=if x = "NoTable" then some 0 else if x = "NotSteady" then some 1 else if x = "NoNumber" then some 5 else if x = "NotWhole" then some 16 else none
def Pp (h:wd x=some i):(x = "NoTable" /\ i=0)∨(x = "NotSteady" /\ i=1)∨(x = "NoNumber" /\ i=5)∨(x = "NotWhole" /\ i=16):=by
 unfold wd at h
 by_cases c:x = "NoTable"
 ·rw[ai c]at h;cases h;exact .inl ⟨c,rfl⟩
 ·rw[aj c]at h
  by_cases b:x = "NotSteady"
  ·rw[ai b]at h;cases h;exact .inr (.inl ⟨b,rfl⟩)
  ·rw[aj b]at h
   by_cases a:x = "NoNumber"
   ·rw[ai a]at h;cases h;exact .inr (.inr (.inl ⟨a,rfl⟩))
   ·rw[aj a]at h
    by_cases H:x = "NotWhole"
    ·rw[ai H]at h;cases h;exact .inr (.inr (.inr ⟨H,rfl⟩))
    ·rw[aj H]at h;cases h
theorem KS (i:Nat):∀k,(Lk i k).length=2 * k+1
 |0=>rfl|k+1=>by
  unfold Lk;rw[ay,KS i k]
  rfl
def KG {k:Nat}{u:W}{a:Ea}(H:∀m A,a [some u,some (.xc x),none,m] A=.ok (ZF i (3 * (k+1)) 3) A)(b:k<6:=by decide):qu 3 (zj qR qi (qL a)) [some u,some (.xc x),none,rO (A.length+2 * k)] (A++Lk i k)=.ok (.nx [some u,some (.xc x),none,rO (A.length+2 * (k+1))]) (A++Lk i (k+1)):=by
 have h:(Lk i k)[2 * k]? =some (.lst (ZF i 0 (3 * (k+1)))):=by
  cases k with
  |zero=>rfl|succ k=>
   unfold Lk;rw[ar (by rw[KS];lia),KS,show 2 * (k+1)-(2 * k+1)=1 by lia]
   rfl
 have:=BO (A:=A) h H (by simp[ZF];lia) (zs:=ZF i 0 (3 * (k+2))) (by
  unfold ZF;rw[<- aN]
  congr 1
  have:=List.range'_append_1 (s:=0) (m:=3 * (k+1)) (n:=3)
  rwa[zero_add]at this)
 rw[KS]at this;exact this
def Bv (e:wd x=some i)(u:W)(A:Hx):VG [some u,some (.xc x),none,none] A=.ok (.rt (.ref (A.length+11))) (A++GX i):=by
 have two:=Pp e;unfold VG;have z:∀{P:Str->Nat->Prop},P "NoTable" 0->P "NotSteady" 1->P "NoNumber" 5->P "NotWhole" 16->P x i:=λa b c d=>by rcases two with ⟨rfl,rfl⟩|⟨rfl,rfl⟩|⟨rfl,rfl⟩|⟨rfl,rfl⟩<;>assumption
 refine(zy (ρ1:=[some u,some (.xc x),none,rO (A.length+2 * 0)]) (A1:=A++Lk i 0) ((qg (jI (z (P:=λx i=>zi _ (zi _ (zi _ zu)) [some u,some (.xc x),none,none] A=.ok (ZF i 0 3) A) (by kernel_rfl) (by kernel_rfl) (by kernel_rfl) (by kernel_rfl)))).trans rfl)).trans ?_
 refine(zy (KG λm A=>?_)).trans ((zy (KG λm A=>?_)).trans ((zy (KG λm A=>?_)).trans ((zy (KG λm A=>?_)).trans ((zy (KG λm A=>?_)).trans ?_))))
 iterate 5 · rcases two with ⟨rfl,rfl⟩|⟨rfl,rfl⟩|⟨rfl,rfl⟩|⟨rfl,rfl⟩<;>kernel_rfl
 have H:(A++Lk i 5).length=A.length+11:=by rw[ay,KS]
 have f:(A++Lk i 5)[A.length+10]? =some (.lst (ZF i 0 18)):=by rw[ar (by lia),show A.length+10-A.length=10 by lia];rfl
 unfold GX;rw[<- aR];generalize A++Lk i 5=B at H f;refine(zy (ρ1:=[some u,some (.xc x),none,rO (A.length+10)]) (A1:=B) ((jX (A1:=B) (kP (k:=true) ?_)).trans rfl)).trans (qp (qI ?_))
 ·rcases two with ⟨rfl,rfl⟩|⟨rfl,rfl⟩|⟨rfl,rfl⟩|⟨rfl,rfl⟩<;>kernel_rfl
 have E:=Pr (cap:=[3]) (mi:=jM (qa (.int 18))) (j:=jG 0 18) (ifs:=zj zD zF zH) (me:=zM 0) (ρ:=[some u,some (.xc x),none,rO (A.length+10)]) (A:=B) (N:=18) (item:=λk=>.int (0+(k:Int))) (g:=λk=>.int (0+(k:Int))) (keep:=λk=>decide (k=i)) rfl rfl (by unfold zT;lia) (λk h=>j8 h) (j7 (by lia))
  (λk h=>by
   refine(zA (zh (i:=1) (w:=.ref (A.length+10)) rfl) (zh (i:=0) (w:=.int (0+(k:Int))) rfl)).trans ?_;rw[Int.zero_add];refine wa f ?_;unfold ZF;rw[av,List.getElem?_range' (by lia)]
   simp) (λk h _=>rfl)
 rw[yW E,H,show((List.range 18).filter λk=>decide (k=i)).map (λk:Nat=>W.int (0+(k:Int)))=[.int i] by rcases two with ⟨rfl,rfl⟩|⟨rfl,rfl⟩|⟨rfl,rfl⟩|⟨rfl,rfl⟩<;>rfl]
def ml (h:wd x=some i):jL.contains x=true:=by rcases Pp h with ⟨rfl,_⟩|⟨rfl,_⟩|⟨rfl,_⟩|⟨rfl,_⟩<;>decide +kernel
def RG (t:Lm)(k:Nat)(w:List W)(A:Hx):R W:=match w6 [t] k w A with
 |.exc x a=>(match wd x with|some i=>.ok (.ref (a.length+11)) (a++GX i)|none=>.bad)
 |_=>.bad
section
variable {PG:gZ}{k:Nat}{t:Lm}{q:Str}
def Av (H:w6 [t] k ws A=.exc x A1)(h:wd x=some i):
  qm 4 (Ka PG (w6 [t])) [.clo k ws (PG k)] A=.ok (.ref (A1.length+11)) (A1++GX i):=by
 have E:XN 0 PG (w6 [t]) [some (.clo k ws (PG k)),some .non,none,none] A=.exc x A1:=by unfold XN;refine(ai rfl).trans H
 have e:Wo 0 1 2 jL PG (w6 [t]) [some (.clo k ws (PG k)),some .non,none,none] A=.ok (.nx [some (.clo k ws (PG k)),some (.xc x),none,none]) A1:=by
  unfold Wo;rw[E];dsimp only;rw[ai (ml h)]
  rfl
 refine qP ?_;unfold Ka;refine(zy (ρ1:=[some (.clo k ws (PG k)),some .non,none,none]) (A1:=A) rfl).trans ?_;exact(zy e).trans (Bv h _ A1)
def MR (H:w6 [t] k ws A=.exc x A1)(h:wd x=some i):RG t k ws A=.ok (.ref (A1.length+11)) (A1++GX i):=by unfold RG;rw[H];dsimp only;rw[h]
set_option tactic.hygienic true in
def NO (u:List W)(A:Hx):Qn PG (RG t) u A=.bad∨qm 4 (Ka PG (w6 [t])) u A=Qn PG (RG t) u A:=by
 by_cases H:Qn PG (RG t) u A=.bad
 ·exact .inl H
 right
 unfold Qn at H ⊢
 split
 ·rename_i k b P
  dsimp only at H
  by_cases a:P=PG k
  ·subst a
   rw[ai rfl]at H ⊢;cases e:w6 [t] k b A with
   |exc x c=>
    cases hm:wd x with|none=>exfalso;apply H;unfold RG;rw[e];dsimp only;rw[hm]|some i=>rw[Av e hm,MR e hm]
   |ok w c=>exfalso;apply H;unfold RG;rw[e]|bad=>exfalso;apply H;unfold RG;rw[e]
  ·rw[aj a]at H;exact absurd rfl H
 ·rename_i h
  exfalso
  apply H
  split
  ·rename_i k b P
   exact(h k b P rfl).elim
  ·rfl
def O6 (a:A[n]? =some (.tab q Pt))(c:gF t.idx ρ=some ws)(H:t.m (ws.map some) A=.exc x A1)(h:wd x=some i):wg n q Pt t.idx (RG t 0) ρ A=.ok (.ref (A1.length+11)) (A1++GX i):=by unfold wg;rw[a];dsimp only;rw[ai ⟨rfl,rfl⟩,c];exact MR H h
def M9 (A:Hx)(i:Nat):(A++GX i)[A.length+11]? =some (.lst [.int i]):=by
 rw[ar (by lia),show A.length+11-A.length=11 by lia]
 rfl
def Fw:wd "NoTable"=some 0:=by decide +kernel
def Hu:wd "NotSteady"=some 1:=by decide +kernel
end
def gK (m:Nat):bM:=jT m λi j=>if i=j then 0 else 1
def rg (n:Nat):bM:=jT n λi j=>((min ((i+n-j)%n) ((j+n-i)%n):Nat):Int)
def bl (m s:Nat):bM:=jT (m * s) λi j=>if i=j then 0 else if i/s=j/s then 1 else 2
def un (n:Nat):bM:=jT (2 ^ n) λi j=>(((List.range n).map λp=>((i ^^^ j) >>> p)%2).sum:Nat)
def ow (n:Nat):bM:=jT (2 ^ n) λi j=>((i ^^^ j:Nat):Int)
def bs (w:Int)(t:bM):bM:=jT (2 * t.length) λi j=>if i/t.length=j/t.length then at2 t (i%t.length) (j%t.length) else qh t+w * at2 t (i%t.length) (j%t.length)
def bT:Nat->List (bN)
 |0=>gK 5|1=>rg 6|2=>rg 4|3=>bl 2 3|4=>un 3|5=>ow 2|6=>jT 6 λi j=>if i=j then 0 else if i+j=5 then 2 else 1|7=>bs 1 (gK 3)|8=>bs 0 (rg 4)|9=>rg 5|10=>rg 7|_=>rg 8
noncomputable def dq (n:Nat):Nat->List α->List α
 |0,l=>l|k+1,l=>(dq n k l).drop n
def wN {k:Nat}{l:List α}{f:α->Bool}(h:((dq n k l).take n).all f=true)(H:(dq n (k+1) l).all f=true):(dq n k l).all f=true:=by rw[<- take_append_drop n (dq n k l),all_append,h];exact H
def YX (i:Nat):Bool:=XS (bT i)&&(UW (bT i)&&(decide ((Rw (bT i) (qh (bT i)).toNat).length=(qh (bT i)).toNat)==decide (i<9)))
def mn:((dq 3 0 (List.range 12)).take 3).all YX=true:=by decide +kernel
def mu:((dq 3 1 (List.range 12)).take 3).all YX=true:=by decide +kernel
def mv:((dq 3 2 (List.range 12)).take 3).all YX=true:=by decide +kernel
def mx:((dq 3 3 (List.range 12)).take 3).all YX=true:=by decide +kernel
def my:(List.range 12).all YX=true:=wN (n:=3) (k:=0) mn (wN mu (wN mv (wN mx rfl)))
def Sj (h:i<12):qj (bT i)/\jK (bT i)/\qh (bT i)=((qh (bT i)).toNat:Int)/\((Rw (bT i) (qh (bT i)).toNat).length=(qh (bT i)).toNat↔i<9):=by
 have H:=cu.mp my i (cf.mpr h);unfold YX at H;rw[ak,ak,aK,decide_eq_decide]at H;have t:=O1 H.1
 have:=kg t
 exact⟨t,EM H.2.1,by lia,H.2.2⟩
def Rj (r:R W)(t:bM):Bool:=match r with|.ok w _=>w.nr&&w.beq (zo t)|_=>false
def wG {f:Fn}{u:List W}(H:qN u=true)(h:Rj (f u []) t=true)(A:Hx):iso f u A=.ok (zo t) A:=by
 unfold Rj at h
 split at h
 ·rename_i w B e
  rw[ak]at h
  have:=W.eq_of h.2
  subst this;exact wH H h.1 e
 ·cases h
section
abbrev a2:bM:=gK 2
def L6 (A:Hx):Ke [.int 2] A=.ok (zo a2) A:=wG rfl (by decide +kernel) A
def mz (A:Hx):Ke [.int 3] A=.ok (zo (gK 3)) A:=wG rfl (by decide +kernel) A
def Ij (A:Hx):ZG [.int 4] A=.ok (zo (rg 4)) A:=wG rfl (by decide +kernel) A
def mB (A:Hx):RI [.int 2] A=.ok (zo (ow 2)) A:=wG rfl (by decide +kernel) A
abbrev c1 {f:Fn}{m:Ev}{w v:W}(H:m ρ A=.ok w A)(h:f [w] A=.ok v A):zU f (zi m zu) ρ A=.ok v A:=(zR (zr H zJ)).trans h
abbrev c2 {f:Fn}{m k:Ev}{w x v:W}(a:m ρ A=.ok w A)(H:k ρ A=.ok x A)(h:f [w,x] A=.ok v A):zU f (zi m (zi k zu)) ρ A=.ok v A:=(zR (zr a (zr H zJ))).trans h
variable {S:List (bM)}{z v:bN}{K k j x:Nat}{C:Hx}{T:W}
def U6 {m M:Ev}{b:Hx}{i j:Int}(h:m ρ A=.ok (.int i) A1)(c:M ρ A1=.ok (.int j) b)(a:jl i=true)(H:jl j=true):QT m M ρ A=.ok (jG i (j-i).toNat) b:=by
 unfold QT;rw[h,zI,c,zI];dsimp only;rw[a,H]
 rfl
def Jf {v:Int}(h:-1000<v)(H:v<1000):jl v=true:=by unfold jl;rw[ak,aq,aq];lia
def Wf.s (w:Wf K S):∀i,i<K->(S.getD i []).length=K:=λi h=>w.r _ (by rw[aa,ae (by rw[w.l];exact h)];exact aL _)
def T6 (w:Wf K S)(e:Zj S K n K B){p mk o M:Ev}(r:p ρ B=.ok (.ref n) B)(H:mk ρ B=.ok (.int (k:Int)) B)(b:o ρ B=.ok (.int (i:Int)) B)(a:M ρ B=.ok (.int (j:Int)) B)(g:k<K)(q:i<K)(L:j<K):
  zj zD (zj zD (zj zD p mk) o) M ρ B=.ok (.int (pS S k i j)) B:=by
 have d:S.getD k []∈S:=by rw[aa,ae (by rw[w.l];exact g)];exact aL _
 obtain⟨y,u,z,t⟩:=e;obtain⟨_,I,v,A,f⟩:=t k g;have ix:∀{l:bS}{x:Nat},x<l.length->(l.map W.ref)[x]? =some (.ref (l.getD x 0)):=λ {l x} h=>by rw[av,aa,ae h];rfl
 refine(zA ((zA ((zA r H).trans (wa u (ix (by lia)))) b).trans (wa v (ix (by lia)))) a).trans (wa (f i q).2 (int_at ?_))
 rw[w.c _ d _ (yY (by rw[w.s k g];exact q))]
 exact L
abbrev fa (T:W)(v:bN)(n:Nat)(a X x:Option W):En:=[some T,some (zq v),rO n,a,X,x]
abbrev LB:Ex:=zG (qu 5 (mQ gE (qy 1 [1,2,3,4] (jM (mQ qe (zZ zF))) (zN 0) q9 (ql (zj qd (zj zD (zj zD (zj zD qc zH) qi) qv) (zj zD zF zH)))))) (zG (jQ (zj ju (zj qd (zj zD zF qi) (zj zD zF qv)) jw) kU zX) zX)
def Se (H:v.length=K){r:Nat}(h:ρ[r]? =some (some (zq v))):mQ qe (zZ (zM r)) ρ B=.ok (.int K) B:=by rw[T4 (ws:=v.map W.int) h,ag,H]
def mC (w:Wf K S)(p:Zj S K n K B)(a:v.length=K)(r:K<=8)(H:Bg v)(o:i<K)(f:j<K):∃y5,LB (fa T v n (iO i) (iO j) x5) B=.ok (if yv S v i j then .nx (fa T v n (iO i) (iO j) y5) else .rt (.bl false)) B:=by
 have c:=gr (cap:=[1,2,3,4]) (mi:=jM (mQ qe (zZ zF))) (me:=zj qd (zj zD (zj zD (zj zD qc zH) qi) qv) (zj zD zF zH)) (ρ:=fa T v n (iO i) (iO j) x5) (A:=B) (N:=K) (item:=λk=>.int (0+(k:Int))) (g:=λk=>.int (pS S k i j * v.getD k 0))
  (yG (Se a rfl) (Jb (by lia))) (by rw[aB];rfl) (by unfold zT;lia) (λk h=>by rw[aB];exact j8 h) (by rw[aB];exact j7 (by lia))
  (λk h=>by
   have P:=w.b (S.getD k []) (by rw[aa,ae (by rw[w.l];exact h)];exact aL _) i j
   rw[Int.zero_add];exact(zA (T6 w p (zh rfl) (zh rfl) (zh rfl) (zh rfl) h o f) ((zA (zh rfl) (zh rfl)).trans kQ)).trans (jt (by show -(2 ^ 64)<at2 _ i j;lia) (by show at2 _ i j<2 ^ 64;lia)))
 have t:((List.range K).map λk=>W.int (pS S k i j * v.getD k 0))=((List.range K).map λk=>pS S k i j * v.getD k 0).map W.int:=by rw[aY];rfl
 rw[t]at c;have E:=(jF c).trans (UO _);generalize d:((List.range K).map λk=>pS S k i j * v.getD k 0).sum=s at E;have e:zj ju (zj qd (zj zD zF qi) (zj zD zF qv)) jw (fa T v n (iO i) (iO j) (iV s)) B=.ok (.bl (!decide (v.getD i 0 * v.getD j 0=s))) B:=
  (zA ((zA ((zA (zh rfl) (zh rfl)).trans kQ) ((zA (zh rfl) (zh rfl)).trans kQ)).trans (Me (Xy H i) (Xy H j))) (zh rfl)).trans (JU _ _ _)
 have q:yv S v i j=decide (v.getD i 0 * v.getD j 0=s):=by
  unfold yv;rw[a,List.drop_of_length_le (by rw[w.l];exact ao _),d]
  rfl
 refine⟨iV s,(zy ((qg E).trans rfl)).trans ?_⟩;rw[q];cases hd:decide (v.getD i 0 * v.getD j 0=s) with|true=>rw[hd]at e;exact(zy ((jX e).trans qx)).trans qx|false=>rw[hd]at e;exact qp ((kh e).trans (qp (qI zP)))
abbrev LI:Ex:=zG (jA (jM (mQ qe (zZ zF))) (zN 4) LB) zX
def mD (w:Wf K S)(g:Zj S K n K B)(l:v.length=K)(f:K<=8)(c:Bg v)(d:i<K){x4:Option W}:
  (∃y4 y5,(List.range K).all (yv S v i)=true/\LI (fa T v n (iO i) x4 x5) B=.ok (.nx (fa T v n (iO i) y4 y5)) B)∨((List.range K).all (yv S v i)=false/\LI (fa T v n (iO i) x4 x5) B=.ok (.rt (.bl false)) B):=by
 have a:=yG (m:=mQ qe (zZ zF)) (ρ:=fa T v n (iO i) x4 x5) (A:=B) (A1:=B) (k:=(K:Int)) (Se l rfl) (ZI (by lia))
 rw[aB]at a;rcases Gh (j:=jG 0 K) (st:=turn (zN 4) LB) (N:=K) (I:=λk p C=>C=B/\(List.range k).all (yv S v i)=true/\∃y4 y5,p=fa T v n (iO i) y4 y5) (Q:=λr C=>r=.bl false/\C=B/\(List.range K).all (yv S v i)=false)
  (λk p C H ⟨q,h,y4,y5,e⟩=>by
   subst e q;refine⟨_,j8 H,?_⟩;obtain⟨z,o⟩:=mC (T:=T) (x5:=y5) (j:=k) w g l f c d H;have E:=(jB (tw:=zN 4) (w:=.int (0+(k:Int))) (ρ:=fa T v n (iO i) y4 y5) (ρ1:=fa T v n (iO i) (iO k) y5) (A:=C) (m1:=LB) (by rw[Int.zero_add];rfl)).trans o
   cases hf:yv S v i k with|true=>rw[hf]at E;exact .inl ⟨_,C,E,rfl,by rw[all_succ,h,hf];rfl,_,_,rfl⟩|false=>rw[hf]at E;exact .inr ⟨_,C,E,rfl,rfl,all_false H hf⟩)
  (λp B _=>j7 (by lia)) K 0 (fa T v n (iO i) x4 x5) B (by lia) ⟨rfl,rfl,_,_,rfl⟩ with ⟨b,C,e,rfl,h,y4,y5,rfl⟩|⟨r,C,e,rfl,rfl,h⟩
 ·exact .inl ⟨y4,y5,h,(zy ((jo a).trans e)).trans qx⟩
 ·exact .inr ⟨h,qp ((jo a).trans e)⟩
abbrev LR:Ex:=zG (jA (jM (mQ qe (zZ zF))) (zN 3) LI) (zG (gH q9) zX)
def mE (w:Wf K S)(g:Zj S K n K B)(l:v.length=K)(f:K<=8)(d:Bg v):LR (fa T v n none none none) B=.ok (.rt (.bl (j4 S v))) B:=by
 have E:=yG (m:=mQ qe (zZ zF)) (ρ:=fa T v n none none none) (A:=B) (A1:=B) (k:=(K:Int)) (Se l rfl) (ZI (by lia))
 rw[aB]at E;rcases Gh (j:=jG 0 K) (st:=turn (zN 3) LI) (N:=K) (I:=λk p C=>C=B/\(List.range k).all (λi=>(List.range K).all (yv S v i))=true/\∃y o Y,p=fa T v n y o Y) (Q:=λr C=>r=.bl false/\C=B/\j4 S v=false)
  (λk p C a ⟨q,H,y,o,Y,e⟩=>by
   subst e q;refine⟨_,j8 a,?_⟩;have t:=jB (tw:=zN 3) (w:=.int (0+(k:Int))) (ρ:=fa T v n y o Y) (ρ1:=fa T v n (iO k) o Y) (A:=C) (m1:=LI) (by rw[Int.zero_add];rfl)
   rcases mD (T:=T) (x4:=o) (x5:=Y) (i:=k) w g l f d a with ⟨Z,z,h,c⟩|⟨h,c⟩
   ·exact .inl ⟨_,C,t.trans c,rfl,by rw[all_succ,H];exact h,_,_,_,rfl⟩
   ·refine .inr ⟨_,C,t.trans c,rfl,rfl,?_⟩
    unfold j4;rw[l];exact all_false a h)
  (λp B _=>j7 (by lia)) K 0 (fa T v n none none none) B (by lia) ⟨rfl,rfl,_,_,_,rfl⟩ with ⟨b,C,e,rfl,H,y,o,Y,rfl⟩|⟨r,C,e,rfl,rfl,H⟩
 ·have:j4 S v=true:=by unfold j4;rw[l];exact H
  rw[this];exact(zy ((jo E).trans e)).trans (qp (qI zP))
 ·rw[H]
  exact qp ((jo E).trans e)
noncomputable def vI:W->Int
 |.int i=>i|_=>0
theorem Lc:∀{w:List W},w.all gi=true->(w.map vI).map W.int=w
 |[],_=>rfl|x::w,h=>by
  rw[all_cons,ak]at h;rw[aQ,aQ,Lc h.2];cases x with|int i=>rfl|_=>cases h.1
def JM (S:List (bM))(K:Nat):W->Bool
 |.tup w=>decide (w.length=K)&&(w.all gi&&(decide ((w.map vI).getD 0 0=1)&&j4 S (w.map vI)))|_=>false
def Cw (x:W):Prop:=x.nr=true/\∃ty,∀A,j6 x A=some ty
def LW (A:Hx)(w:W):Prop:=(∃a,w=.tup a/\a.length<=100/\(∀x∈a,Cw x)/\Bg (a.map vI))∨∃ty,j6 w A=some ty/\ty≠.tup
def CH {x:W}(h:Cw x)(A:Hx):W9 [x] A=.ok (.bl (gi x)) A:=by obtain⟨a,ty,H⟩:=h;exact wH (A1:=[]) (by show(x.nr&&true)=true;rw[a];rfl) rfl (O3 (H []))
def mF (w:Wf K S)(J:qj t)(o:qh t=(K:Int))(sh:∀a b,a<t.length->b<t.length->jh t K a b=S.getD (at2 t a b).toNat []){a:W}(h:LW A a):∃B,JX [zo t,a] A=.ok (.bl (JM S K a)) B/\Ext A B:=by
 have Q:K<=8:=by have:=Xc J;have:=J.n8;lia
 have U:1<=K:=by have:=kg J;lia
 obtain⟨B,u,X,n⟩:=La J o sh A;obtain⟨T,N,P,_⟩:=id n;have L:mQ qe (zZ qc) [some (zo t),some a,rO A.length,none,none,none] B=.ok (.int (K:Int)) B:=(Jm (i:=2) rfl N).trans (by rw[ag,P])
 refine⟨B,?_,X⟩;unfold JX Rz;refine qP ?_;dsimp only[Vt,mq];refine(zy ((qg ((zR (zr (zh rfl) zJ)).trans u)).trans rfl)).trans ?_;rcases h with ⟨C,rfl,y,H,j⟩|⟨ty,H,hn⟩
 ·have E:ZA (kj (w9 .tup zF)) (zj ju (mQ qe (zZ zF)) (mQ qe (zZ qc))) [some (zo t),some (.tup C),rO A.length,none,none,none] B=.ok (.bl (!decide (C.length=K))) B:=
   (K6 (kP (k:=true) ((QX (ty:=.tup) (zh rfl) rfl).trans rfl))).trans ((zA (T4 rfl) L).trans ((JU _ _ _).trans (by congr 3;exact decide_eq_decide.mpr ⟨λz=>by lia,λz=>by lia⟩)))
  rw[show JM S K (.tup C)=(decide (C.length=K)&&(C.all gi&&(decide ((C.map vI).getD 0 0=1)&&j4 S (C.map vI)))) from rfl]
  by_cases D:C.length=K
  ·rw[ax D]at E ⊢
   refine(zy ((jX E).trans qx)).trans ?_;have q:=Km (cap:=[]) (A:=B) (ρ:=[some (zo t),some (.tup C),rO A.length,none,none,none]) (ws:=C) (m:=zF) (me:=zU W9 (zi zH zu)) (g:=λw=>.bl (gi w)) (zh rfl) (by unfold zT;lia) (λx l=>(zR (zr (zh rfl) zJ)).trans (CH (H x l) B))
   have e:kj (mQ Ws (qy 1 [] (qF zF) (zN 0) q9 (ql (zU W9 (zi zH zu))))) [some (zo t),some (.tup C),rO A.length,none,none,none] B=.ok (.bl (!C.all gi)) B:=by
    refine kP ((jF q).trans ?_);unfold Ws Zu;rw[Ur];show R.ok (W.bl ((C.map gi).all id)) B=_;rw[all_map]
    rfl
   cases I:C.all gi with
   |false=>
    rw[I]at e;exact qp ((kh (Ld e)).trans (qp (qI zP)))
   |true=>
    rw[I]at e;have r:W.tup C=zq (C.map vI):=by unfold zq;rw[Lc I]
    have f:(C.map vI).length=K:=by rw[ag];exact D
    rw[r]at e ⊢;generalize C.map vI=v at f j e;have d:=(K6 e).trans ((zA ((zA (zh (i:=1) (ρ:=fa (zo t) v A.length none none none) (A:=B) rfl) zP).trans (kQ (b:=0) (by lia))) (zP (w:=.int 1))).trans (JU _ _ _))
    by_cases M:v.getD 0 0=1
    ·rw[ax M]at d ⊢
     exact(zy ((jX d).trans qx)).trans (mE w n f Q j)
    ·rw[aG M]at d ⊢
     exact qp ((kh d).trans (qp (qI zP)))
  ·rw[aG D]at E ⊢
   exact qp ((kh E).trans (qp (qI zP)))
 ·have p:JM S K a=false:=by
   cases a with|tup C=>exfalso;unfold j6 at H;cases H;exact hn rfl|_=>rfl
  have E:=Ld (mb:=zj ju (mQ qe (zZ zF)) (mQ qe (zZ qc))) (kP (k:=false) ((QX (c:=.tup) (zh (i:=1) (ρ:=[some (zo t),some a,rO A.length,none,none,none]) (A:=B) rfl) (X.ky _ _ H)).trans (by cases ty<;>first|rfl|exact absurd rfl hn)))
  rw[p];exact qp ((kh E).trans (qp (qI zP)))
end
section
variable {S:List (bM)}{z:bN}{K κ k j x p2:Nat}{C D:Hx}{row:bN}{T:W}
structure Kb (S:List (bM))(z:bN)(K p2:Nat)(D B:Hx):Prop where
 nu:Zj S K 0 K D
 z_:D[p2]? =some (.lst (z.map W.int))
 x:Ext D B
def Kb.ext (h:Kb S z K p2 D B)(x:Ext B C):Kb S z K p2 D C:=⟨h.nu,h.z_,h.x.trans x⟩
def Dq {y:W}(h:A[n]? =some (.lst ws))(H:ws.length<50000):wc (.ref n) y A=.ok .non (A.set n (.lst (ws++[y]))):=by unfold wc;dsimp only;rw[h];dsimp only;rw[ai (by unfold zT;lia)]
def kY (S:List (bM))(K a i:Nat):bN:=(List.range (K-(a + 1))).map λd=>pS S (a + 1+d) i a
def WI (S:List (bM))(a i:Nat)(r:bN):Int:=((List.range (a + 1)).map λk=>pS S k i a * r.getD k 0).sum
def Qv (S:List (bM))(K a:Nat)(r:bN)(i:Nat):Bool:=!decide (ko (kY S K a i++[0])=0) || decide (r.getD i 0 * r.getD a 0=WI S a i r)
abbrev IB:Ex:=zG (qu 9 (jN (qy 1 [1,4,8] (QT (zj qR qv jv) (mQ qe (zZ qc))) (zN 0) q9 (ql (zj zD (zj zD (zj zD zF zH) qi) qc))))) (zG (jQ (zj yd (mQ wY (zZ (zj qR WH (qL (zi qD zu))))) qD) (zG (qu 10 (mQ gE (qy 1 [1,4,6,8] (jM (zj qR qv jv)) (zN 0) q9 (ql (zj qd (zj zD (zj zD (zj zD zF zH) qv) qc) (zj zD qi zH)))))) (zG (qu 7 (kR yR (zj yd (zj qd (zj zD yB kK) (zj zD yB qv)) JB))) zX)) zX) zX)
abbrev fr (p:Nat)(T:W)(f e d c b a X x:Option W):En:=[some T,rO 0,rO p,f,e,d,c,b,a,X,x]
abbrev fi (p:Nat)(T:W)(e:Option W)(a:Nat)(d:Option W)(r:bN)(c b X x:Option W):En:=fr p T e (iO a) d (some (zq r)) c b X x
def mG (w:Wf K S)(p:z.length=K)(f:Kb S z K p2 D B)(hK:K<=8)(H:κ < K)(r:row.length=κ + 1)(P:∀v∈row,-100<v/\v<100)(hi:i<=κ){x3 x9 x10:Option W}{g:Bool}:
  ∃C Y y,IB (fi p2 T x3 κ x5 row (bO g) (iO i) x9 x10) B=.ok (.nx (fi p2 T x3 κ x5 row (bO (g&&Qv S K κ row i)) (iO i) Y y)) C/\Ext B C:=by
 have o:B[p2]? =some (.lst (z.map W.int)):=f.x.at f.z_;have u:∀k,-100<row.getD k 0/\row.getD k 0<100:=λk=>by
  by_cases h:k<row.length
  ·rw[aa,ae h];exact P _ (aL _)
  ·rw[aa,az (by lia)];show -100<(0:Int)/\(0:Int)<100;lia
 have L:=gr (cap:=[1,4,8]) (mi:=QT (zj qR qv jv) (mQ qe (zZ qc))) (me:=zj zD (zj zD (zj zD zF zH) qi) qc) (ρ:=fi p2 T x3 κ x5 row (bO g) (iO i) x9 x10) (A:=B) (N:=K-(κ + 1)) (j:=jG ((κ:Int)+1) (((z.map W.int).length:Int)-((κ:Int)+1)).toNat)
  (item:=λd=>.int ((κ:Int)+1+(d:Int))) (g:=λd=>.int (pS S (κ + 1+d) i κ))
  (U6 ((zA (zh rfl) zP).trans rfl) (Jm rfl o) (Jf (by lia) (by lia)) (Jf (by rw[ag];lia) (by rw[ag];lia)))
  (by show(((z.map W.int).length:Int)-((κ:Int)+1)).toNat=_;rw[ag,p];lia) (by unfold zT;lia) (λd hd=>j8 (by rw[ag,p];lia)) (j7 (by rw[ag,p];lia))
  (λd hd=>by
   rw[show((κ:Int)+1+(d:Int))=((κ + 1+d:Nat):Int) by lia]
   exact T6 w (f.nu.ext f.x) (zh rfl) (zh rfl) (zh rfl) (zh rfl) (by lia) (by lia) H)
 have U:((List.range (K-(κ + 1))).map λd=>W.int (pS S (κ + 1+d) i κ))=(kY S K κ i).map W.int:=by unfold kY;rw[aY];rfl
 rw[U]at L;have M:(kY S K κ i).length=K-(κ + 1):=by unfold kY;simp
 have x1:Ext B (B++[O.lst ((kY S K κ i).map W.int)]):=.one;generalize e:B++[O.lst ((kY S K κ i).map W.int)]=a at x1;have J:qu 9 (jN (qy 1 [1,4,8] (QT (zj qR qv jv) (mQ qe (zZ qc))) (zN 0) q9 (ql (zj zD (zj zD (zj zD zF zH) qi) qc)))) (fi p2 T x3 κ x5 row (bO g) (iO i) x9 x10) B=.ok (.nx (fi p2 T x3 κ x5 row (bO g) (iO i) (rO B.length) x10)) a:=by
  refine((qg (yW L)).trans ?_);rw[e]
  rfl
 have Q:a[B.length]? =some (.lst ((kY S K κ i).map W.int)):=by rw[<- e];exact qH
 have E:zj yd (mQ wY (zZ (zj qR WH (qL (zi qD zu))))) qD (fi p2 T x3 κ x5 row (bO g) (iO i) (rO B.length) x10) a=.ok (.bl (decide (ko (kY S K κ i++[0])=0))) (a++[.lst [.int 0]]++[.lst ((kY S K κ i++[0]).map W.int)]):=by
  have a1:=(zA (zh (i:=9) (ρ:=fi p2 T x3 κ x5 row (bO g) (iO i) (rO B.length) x10) (A:=a) rfl) (jI (ws:=[.int 0]) (A1:=a) (zr zP zJ))).trans (Kr (jq Q) qH (by rw[ag,M];unfold zT;simp;lia))
  have a2:(kY S K κ i).map W.int++[.int 0]=(kY S K κ i++[0]).map W.int:=by rw[aN];rfl
  rw[a2]at a1;exact(zA ((jF (yr a1 (by unfold zK;dsimp only;rw[qH]))).trans (UM (by simp))) zP).trans (gL _ _ _)
 generalize q:a++[O.lst [.int 0]]++[O.lst ((kY S K κ i++[0]).map W.int)]=c at E;have x2:Ext B c:=by rw[<- q];exact x1.app.app
 have k2:=f.ext x2
 by_cases n:ko (kY S K κ i++[0])=0
 ·rw[ax n]at E
  have I:=gr (cap:=[1,4,6,8]) (mi:=jM (zj qR qv jv)) (me:=zj qd (zj zD (zj zD (zj zD zF zH) qv) qc) (zj zD qi zH)) (ρ:=fi p2 T x3 κ x5 row (bO g) (iO i) (rO B.length) x10) (A:=c) (N:=κ + 1) (j:=jG 0 ((κ:Int)+1).toNat)
   (item:=λk=>.int (0+(k:Int))) (g:=λk=>.int (pS S k i κ * row.getD k 0)) (yG ((zA (zh rfl) zP).trans rfl) (Jf (by lia) (by lia))) (by show((κ:Int)+1).toNat=_;lia) (by unfold zT;lia) (λk t=>j8 (by lia)) (j7 (by lia))
   (λk t=>by
    have pb:0<=pS S k i κ/\pS S k i κ < 100:=w.b (S.getD k []) (by rw[aa,ae (by rw[w.l];lia)];exact aL _) i κ
    rw[Int.zero_add];exact(zA (T6 w (k2.nu.ext k2.x) (zh rfl) (zh rfl) (zh rfl) (zh rfl) (by lia) (by lia) H) ((zA (zh rfl) (zh rfl)).trans (kQ (by rw[r];exact t)))).trans jt)
  have em:((List.range (κ + 1)).map λk=>W.int (pS S k i κ * row.getD k 0))=((List.range (κ + 1)).map λk=>pS S k i κ * row.getD k 0).map W.int:=by rw[aY];rfl
  rw[em]at I;have Z:=(jF I).trans (UO _);have X:kR yR (zj yd (zj qd (zj zD yB kK) (zj zD yB qv)) JB) (fi p2 T x3 κ x5 row (bO g) (iO i) (rO B.length) (iV (WI S κ i row))) c=.ok (.bl (g&&decide (row.getD i 0 * row.getD κ 0=WI S κ i row))) c:=
   K9 (zh rfl) ((zA ((zA ((zA (zh rfl) (zh rfl)).trans (kQ (by rw[r];lia))) ((zA (zh rfl) (zh rfl)).trans (kQ (by rw[r];lia)))).trans (jt (by have:=u i;lia) (by have:=u i;lia))) (zh rfl)).trans (gL _ _ _))
  have ce:Qv S K κ row i=decide (row.getD i 0 * row.getD κ 0=WI S κ i row):=by
   unfold Qv;rw[ax n]
   rfl
  refine⟨c,rO B.length,iV (WI S κ i row),(zy J).trans ((zy ((kh E).trans ((zy ((qg Z).trans rfl)).trans ((zy ((qg X).trans rfl)).trans qx)))).trans ?_),x2⟩;rw[ce];exact qx
 ·rw[aG n]at E
  have ce:Qv S K κ row i=true:=by
   unfold Qv;rw[aG n]
   rfl
  refine⟨c,rO B.length,x10,(zy J).trans ((zy ((jX E).trans qx)).trans ?_),x2⟩;rw[ce,Bool.and_true];exact qx
def gd (S:List (bM))(K a:Nat)(r:bN):Bool:=(List.range (a + 1)).all (Qv S K a r)
def Dg {p:Nat->Bool}(n:Nat):(List.range (n+1)).all p=((List.range n).all p&&p n):=by rw[bj,all_append];simp
def mH (w:Wf K S)(c:z.length=K)(l:Kb S z K p2 D B)(f:K<=8)(H:κ < K)(r:row.length=κ + 1)(d:∀v∈row,-100<v/\v<100){x3 x8 x9 x10:Option W}:
  ∃C y8 Y y,jA (jM (zj qR qv jv)) (zN 8) IB (fi p2 T x3 κ x5 row (bO true) x8 x9 x10) B=.ok (.nx (fi p2 T x3 κ x5 row (bO (gd S K κ row)) y8 Y y)) C/\Ext B C:=by
 obtain⟨a,C,e,y8,Y,y,rfl,x⟩:=ye (j:=jG 0 ((κ:Int)+1).toNat) (st:=turn (zN 8) IB) (N:=κ + 1)
  (I:=λi o C=>∃y8 Y y,o=fi p2 T x3 κ x5 row (bO ((List.range i).all (Qv S K κ row))) y8 Y y/\Ext B C)
  (λi o C n ⟨y8,Y,y,h,x⟩=>by
   subst h;obtain⟨D,b,Z,e,X⟩:=mG (T:=T) (x3:=x3) (x5:=x5) (x9:=Y) (x10:=y) (g:=(List.range i).all (Qv S K κ row)) w c (l.ext x) f H r d (i:=i) (by lia)
   refine⟨.int (0+(i:Int)),_,D,j8 (by lia),(jB (by rw[Int.zero_add];rfl)).trans e,iO i,b,Z,?_,x.trans X⟩
   rw[Dg])
  (λo B _=>j7 (by lia)) (κ + 1) 0 (fi p2 T x3 κ x5 row (bO true) x8 x9 x10) B (by lia) ⟨x8,x9,x10,rfl,.refl⟩
 refine⟨C,y8,Y,y,(jo (yG (k:=(κ:Int)+1) ((zA (zh rfl) zP).trans rfl) (Jf (by lia) (by lia)))).trans ?_,x⟩
 rw[show(jG 0 ((κ:Int)+1).toNat).len=κ + 1 by show((κ:Int)+1).toNat=_;lia]
 exact e
noncomputable def yF (v:Int)(r:bN):bM:=(List.range (2 * v+1).toNat).map λ(d:Nat)=>r++[-v+(d:Int)]
def yK (S:List (bM))(z:bN)(K:Nat):Nat->List (bN)
 |0=>[[1]]|m+1=>((yK S z K m).flatMap (yF (z.getD (m+1) 0))).filter (gd S K (m+1))
abbrev EB:Ex:=zG (wz (yM Jl jw (jN (qy 1 [6] (QT (zj Zw qD (zj zD qc qv)) (zj qR (zj zD qc qv) jv)) (zN 0) q9 (ql (zj qR zF (qB (zi zH zu)))))))) zX
abbrev RB:Ex:=zG (qu 7 q9) (zG (jA (jM (zj qR qv jv)) (zN 8) IB) (zG (jQ yR (zG (wz (yM wc qi yB)) zX) zX) zX))
def Ey {k:Nat}{u:List W}(h:A[n]? =some (.lst ws))(a:A[k]? =some (.lst u))(H:ws.length+u.length<=zT):Jl (.ref n) (.ref k) A=.ok .non (A.set n (.lst (ws++u))):=by unfold Jl;dsimp only;rw[h,a];dsimp only;rw[ai H]
def Kq (p:Nat)(B C:Hx):Prop:=B.length<=C.length/\∀q,q<p->C[q]? =B[q]?
def Kq.kb {p:Nat}(h:Kb S z K p2 D B)(q:Kq p B C)(a:D.length<=p):Kb S z K p2 D C:=⟨h.nu,h.z_,Th (by have:=h.x.len;have:=q.1;lia) λi H=>(q.2 i (by lia)).trans (by obtain⟨l,e⟩:=h.x;rw[e];exact ah H)⟩
def mI (c:z.length=K)(H:Kb S z K p2 D B)(f:K<=8)(b:κ < K)(v:0<=z.getD κ 0/\z.getD κ 0<=8)(r:row.length<=8){p:Nat}{i:bM}(a:B[p]? =some (.lst (i.map zq)))(q:i.length<50000){x3 x7 x8 x9 x10:Option W}:
  EB (fi p2 T x3 κ (rO p) row x7 x8 x9 x10) B=.ok (.nx (fi p2 T x3 κ (rO p) row x7 x8 x9 x10)) ((B++[O.lst ((yF (z.getD κ 0) row).map zq)]).set p (O.lst ((i++yF (z.getD κ 0) row).map zq))):=by
 have h:B[p2]? =some (.lst (z.map W.int)):=H.x.at H.z_;have e:zj zD qc qv (fi p2 T x3 κ (rO p) row x7 x8 x9 x10) B=.ok (.int (z.getD κ 0)) B:=(zA (zh rfl) (zh rfl)).trans (wa h (int_at (by lia)))
 have E:=gr (cap:=[6]) (mi:=QT (zj Zw qD (zj zD qc qv)) (zj qR (zj zD qc qv) jv)) (me:=zj qR zF (qB (zi zH zu))) (ρ:=fi p2 T x3 κ (rO p) row x7 x8 x9 x10) (A:=B) (N:=(2 * z.getD κ 0+1).toNat) (j:=jG (0-z.getD κ 0) (z.getD κ 0+1-(0-z.getD κ 0)).toNat)
  (item:=λd=>.int (0-z.getD κ 0+(d:Int))) (g:=λd=>zq (row++[-z.getD κ 0+(d:Int)]))
  (U6 ((zA zP e).trans rfl) ((zA e zP).trans rfl) (Jf (by lia) (by lia)) (Jf (by lia) (by lia))) (by show(z.getD κ 0+1-(0-z.getD κ 0)).toNat=_;lia) (by unfold zT;lia) (λd n=>j8 (by lia)) (j7 (by lia))
  (λd n=>by
   refine(zA (zh rfl) (wF (zr (zh rfl) zJ))).trans ((OS (by rw[ag];simp;lia)).trans ?_)
   unfold zq;rw[aN,show 0-z.getD κ 0+(d:Int)=-z.getD κ 0+(d:Int) by lia]
   rfl)
 have o:((List.range (2 * z.getD κ 0+1).toNat).map λ(d:Nat)=>zq (row++[-z.getD κ 0+(d:Int)]))=(yF (z.getD κ 0) row).map zq:=by unfold yF;rw[aY];rfl
 rw[o]at E;have l:(yF (z.getD κ 0) row).length=(2 * z.getD κ 0+1).toNat:=by unfold yF;simp
 refine(zy (Zm (w:=.non) ((Jj (zh rfl) a (yW E)).trans ((Ey (jq a) qH (by rw[ag,ag,l];unfold zT;lia)).trans ?_)))).trans qx
 rw[aN]
def mK (d:z.length=K)(n:Kb S z K p2 D B)(l:K<=8)(H:κ < K)(v:0<=z.getD κ 0/\z.getD κ 0<=8){p3 p5:Nat}{rs:bM}(f:∀r∈rs,r.length<=8)(u:(rs.flatMap (yF (z.getD κ 0))).length<40000)(a:B[p3]? =some (.lst (rs.map zq)))(b:B[p5]? =some (.lst []))(t:D.length<=p3)(Q:p3<p5){x6 x7 x8 x9 x10:Option W}:
  ∃C y6,jA (qF qi) (zN 6) EB (fr p2 T (rO p3) (iO κ) (rO p5) x6 x7 x8 x9 x10) B=.ok (.nx (fr p2 T (rO p3) (iO κ) (rO p5) y6 x7 x8 x9 x10)) C/\C[p5]? =some (.lst ((rs.flatMap (yF (z.getD κ 0))).map zq))/\Kq p5 B C:=by
 have L:=jU b;have M:∀m,((rs.take m).flatMap (yF (z.getD κ 0))).length<=(rs.flatMap (yF (z.getD κ 0))).length:=λm=>by
  have:rs.flatMap (yF (z.getD κ 0))=(rs.take m).flatMap (yF (z.getD κ 0))++(rs.drop m).flatMap (yF (z.getD κ 0)):=by rw[<- bL,take_append_drop]
  rw[this,ay];lia
 obtain⟨c,C,e,y6,rfl,x,w⟩:=ye (j:=⟨λA i=>(zK (.ref p3) A).map λE=>E[i]?,(rs.map zq).length⟩) (st:=turn (zN 6) EB) (N:=rs.length)
  (I:=λm y C=>∃y6,y=fr p2 T (rO p3) (iO κ) (rO p5) y6 x7 x8 x9 x10/\C[p5]? =some (.lst (((rs.take m).flatMap (yF (z.getD κ 0))).map zq))/\Kq p5 B C)
  (λm y C J ⟨y6,h,x,w⟩=>by
   subst h;have p:C[p3]? =some (.lst (rs.map zq)):=(w.2 p3 Q).trans a;have o:=Kq.kb n w (by lia)
   have e:=mI (T:=T) (x3:=rO p3) (x7:=x7) (x8:=x8) (x9:=x9) (x10:=x10) (row:=rs[m]) d o l H v (f _ (aL J)) x (by have:=M m;lia)
   refine⟨zq rs[m],_,_,?_,(jB rfl).trans e,_,rfl,?_,?_,λq g=>?_⟩
   ·exact(kD p).trans (by rw[av,ae J];rfl)
   ·rw[take_succ J,bL]
    simp only[flatMap_cons,flatMap_nil,aX];exact aw (by rw[ay];have:=w.1;lia)
   ·rw[bD,ay]
    have:=w.1
    lia
   ·rw[au (by lia),ah (by have:=w.1;lia)]
    exact w.2 q g)
  (λy C ⟨y6,_,_,w⟩=>(kD ((w.2 p3 Q).trans a)).trans (by rw[az (by simp)])) rs.length 0 (fr p2 T (rO p3) (iO κ) (rO p5) x6 x7 x8 x9 x10) B (by lia) ⟨x6,rfl,by rw[b];rfl,ao _,λ_ _=>rfl⟩
 rw[take_length]at x;refine⟨C,y6,(jo (Z7 (zh rfl) a)).trans ?_,x,w⟩;rw[show(jn.len ⟨λA i=>(zK (.ref p3) A).map λE=>E[i]?,(rs.map zq).length⟩)=rs.length by simp]
 exact e
def mL (w:Wf K S)(d:z.length=K)(j:Kb S z K p2 D B)(i:K<=8)(a:κ < K)(r:row.length=κ + 1)(f:∀v∈row,-100<v/\v<100){p:Nat}{t:bM}(b:B[p]? =some (.lst (t.map zq)))(A:t.length<40000){x7 x8 x9 x10:Option W}:
  ∃C y8 Y y,RB (fi p2 T (rO p) κ x5 row x7 x8 x9 x10) B=.ok (.nx (fi p2 T (rO p) κ x5 row (bO (gd S K κ row)) y8 Y y)) C/\C[p]? =some (.lst ((t++[row].filter (gd S K κ)).map zq))/\B.length<=C.length/\∀q,q<B.length->q≠p->C[q]? =B[q]?:=by
 obtain⟨C,y8,Y,y,e,x⟩:=mH (T:=T) (x3:=rO p) (x5:=x5) (x8:=x8) (x9:=x9) (x10:=x10) w d j i a r f;have c:=x.at b;have n:=jU b;have L:=x.len;have o:∀q,q<B.length->C[q]? =B[q]?:=λq h=>by obtain⟨l,rfl⟩:=x;exact ah h
 have E:qu 7 q9 (fi p2 T (rO p) κ x5 row x7 x8 x9 x10) B=.ok (.nx (fi p2 T (rO p) κ x5 row (bO true) x8 x9 x10)) B:=rfl
 by_cases g:gd S K κ row=true
 ·rw[g]at e ⊢
  refine⟨C.set p (.lst ((t++[row]).map zq)),y8,Y,y,(zy E).trans ((zy e).trans ((zy ((kh (zh rfl)).trans ((zy (Zm (w:=.non) ((Jj (zh rfl) c (zh rfl)).trans ((Dq c (by rw[ag];lia)).trans ?_)))).trans qx))).trans qx)),?_,by rw[bD];exact L,λq h u=>(au (Ne.symm u)).trans (o q h)⟩
  ·rw[aN]
   rfl
  ·rw[aw (by lia)]
   simp[g]
 ·have H:gd S K κ row=false:=by simpa using g
  rw[H]at e ⊢;refine⟨C,y8,Y,y,(zy E).trans ((zy e).trans ((zy ((jX (zh rfl)).trans qx)).trans qx)),?_,L,λq h _=>o q h⟩;rw[c];simp[H]
def mM (w:Wf K S)(d:z.length=K)(n:Kb S z K p2 D B)(l:K<=8)(H:κ < K){p3 p5:Nat}{rs:bM}(f:∀r∈rs,r.length=κ + 1/\∀v∈r,-100<v/\v<100)(M:rs.length<40000)(b:B[p3]? =some (.lst []))(a:B[p5]? =some (.lst (rs.map zq)))(J:D.length<=p5)(Q:p5<p3){x6 x7 x8 x9 x10:Option W}:
  ∃C y6 y7 y8 Y y,jA (qF jw) (zN 6) RB (fr p2 T (rO p3) (iO κ) (rO p5) x6 x7 x8 x9 x10) B=.ok (.nx (fr p2 T (rO p3) (iO κ) (rO p5) y6 y7 y8 Y y)) C/\C[p3]? =some (.lst ((rs.filter (gd S K κ)).map zq))/\Kq p3 B C:=by
 have L:=jU b;obtain⟨c,C,e,y6,y7,y8,Y,y,rfl,U,P⟩:=ye (j:=⟨λA i=>(zK (.ref p5) A).map λws=>ws[i]?,(rs.map zq).length⟩) (st:=turn (zN 6) RB) (N:=rs.length)
  (I:=λm X C=>∃y6 y7 y8 Y y,X=fr p2 T (rO p3) (iO κ) (rO p5) y6 y7 y8 Y y/\C[p3]? =some (.lst (((rs.take m).filter (gd S K κ)).map zq))/\Kq p3 B C)
  (λm X C hm ⟨y6,y7,y8,Y,y,h,U,P⟩=>by
   subst h;have u:C[p5]? =some (.lst (rs.map zq)):=(P.2 p5 Q).trans a;have t:=Kq.kb n P (by lia)
   obtain⟨k1,k2⟩:=f _ (aL hm);have lf:((rs.take m).filter (gd S K κ)).length<40000:=by have a1:=length_filter_le (gd S K κ) (rs.take m);have a2:=List.length_take_le m rs;lia
   obtain⟨D,E,x,Z,e,d1,p,o⟩:=mL (T:=T) (x5:=rO p5) (x7:=y7) (x8:=y8) (x9:=Y) (x10:=y) w d t l H k1 k2 U lf;refine⟨zq rs[m],_,D,?_,(jB rfl).trans e,_,_,_,_,_,rfl,?_,a4 P.1 p,λq g=>?_⟩
   ·exact(kD u).trans (by rw[av,ae hm];rfl)
   ·rw[d1,take_succ hm,filter_append]
   ·rw[o q (by have:=P.1;lia) (by lia)]
    exact P.2 q g)
  (λX C ⟨_,_,_,_,_,_,_,P⟩=>(kD ((P.2 p5 Q).trans a)).trans (by rw[az (by simp)])) rs.length 0 (fr p2 T (rO p3) (iO κ) (rO p5) x6 x7 x8 x9 x10) B (by lia) ⟨x6,x7,x8,x9,x10,rfl,by rw[b];rfl,ao _,λ_ _=>rfl⟩
 rw[take_length]at U;refine⟨C,y6,y7,y8,Y,y,(jo (Z7 (zh rfl) a)).trans ?_,U,P⟩;rw[show(jn.len ⟨λA i=>(zK (.ref p5) A).map λws=>ws[i]?,(rs.map zq).length⟩)=rs.length by simp]
 exact e
end
section
variable {S:List (bM)}{z v:bN}{K κ k j m:Nat}{C:Hx}
def mO {s:Int}(h:0<=s)(r:bN):yF s r=(ext s r).reverse:=by
 unfold yF ext dn;rw[aY];refine a9 (by simp;lia) λi H a=>?_
 have H:i<(2 * s+1).toNat:=by simpa using H
 rw[List.getElem_reverse];simp only[getElem_map,getElem_range,ag,aI,Function.comp]
 congr 2
 lia
theorem Uy {s:Int}(h:0<=s):∀L:bM,L.reverse.flatMap (yF s)=(L.flatMap (ext s)).reverse
 |[]=>rfl|a::L=>by rw[bI,bL,Uy h L,List.flatMap_singleton,mO h,flatMap_cons,List.reverse_append]
theorem Xk (h:Zs K z):∀k,k<K->yK S z K k=(ZD (gd S K) z k).reverse
 |0,_=>rfl|k+1,H=>by have Z:=h.le H;show((yK S z K k).flatMap (yF (z.getD (k+1) 0))).filter (gd S K (k+1))=(((ZD (gd S K) z k).flatMap (ext (z.getD (k+1) 0))).filter (gd S K (k+1))).reverse;rw[Xk h k (by lia),Uy (by lia),List.filter_reverse]
def mP (H:Zs K z)(d:k+1<K):((yK S z K k).flatMap (yF (z.getD (k+1) 0))).length<40000/\(∀r∈yK S z K k,r.length=k+1)/\∀r∈(yK S z K k).flatMap (yF (z.getD (k+1) 0)),r.length=k+1+1/\∀v∈r,-100<v/\v<100:=by
 have Z:=H.le d;have sh:=Je (p:=gd S K) H k (by lia)
 rw[Xk H k (by lia),Uy (by lia)]
 refine⟨?_,λr a=>(sh r (List.mem_reverse.mp a)).1,λr a=>?_⟩
 ·rw[length_reverse,UY]
  have i:=UP (p:=gd S K) H (k:=k) (by lia)
  have g:2 * (z.getD (k+1) 0).toNat+1<=17:=by lia
  exact Nat.lt_of_le_of_lt (mul_le_mul i g) (by decide)
 ·obtain⟨x,b,w⟩:=List.mem_flatMap.mp (List.mem_reverse.mp a)
  obtain⟨v,c,rfl⟩:=Yl.mp w;obtain⟨f,e,_⟩:=sh x b;have D:=(Xj (by lia)).mp c
  refine⟨by rw[ay,f];rfl,λu h=>?_⟩
  rcases cx.mp h with h|h
  ·have:=e u h;lia
  ·rw[cw.mp h];lia
def mR (w:Wf K S)(f:Full K S v)(h:κ < K):gd S K κ (v.take (κ + 1))=true:=by
 unfold gd;rw[aZ];intro i H;have H:=cf.mp H;unfold Qv
 by_cases a:ko (kY S K κ i++[0])=0
 ·rw[ax a,Bool.not_true,Bool.false_or,aq,Yf H,Yf (by lia),f i κ (by lia) h]
  show _=sm (κ + 1) λk=>pS S k i κ * (v.take (κ + 1)).getD k 0;have e:K=(κ + 1)+(K-(κ + 1)):=by lia
  rw[e,Ts (K-(κ + 1)) λk j g=>?_]
  ·exact yq λk h=>by rw[Yf h]
  ·have c:pS S k i κ<=ko (kY S K κ i++[0]):=UL (bt _ (by unfold kY;exact cn.mpr ⟨k-(κ + 1),cf.mpr (by lia),by rw[show κ + 1+(k-(κ + 1))=k by lia]⟩))
   have d:=(w.b (S.getD k []) (by rw[aa,ae (by rw[w.l];lia)];exact aL _) i κ).1
   have:pS S k i κ=0:=by
    have:0<=pS S k i κ:=d
    lia
   rw[this,zero_mul]
 ·rw[aG a]
  rfl
def NX (v:bN):(v.map W.int).map vI=v:=by rw[aY];exact List.map_id v
def Al (v:bN):(v.map W.int).all gi=true:=by rw[all_map];exact cu.mpr λ_ _=>rfl
def O8:JM S K (zq v)=(decide (v.length=K)&&(decide (v.getD 0 0=1)&&j4 S v)):=by show(decide ((v.map W.int).length=K)&&((v.map W.int).all gi&&(decide (((v.map W.int).map vI).getD 0 0=1)&&j4 S ((v.map W.int).map vI))))=_;rw[ag,NX,Al,Bool.true_and]
def mS (w:Wf K S)(h:JM S K (zq v)=true):v.length=K/\v.getD 0 0=1/\Full K S v:=by rw[O8,ak,ak,aq,aq]at h;exact⟨h.1,h.2.1,(UB w.l h.1).mp h.2.2⟩
def mT (w:Wf K S)(h:Wt K S z v):JM S K (zq v)=true:=by
 rw[O8,ax h.l,ax h.o,(UB w.l h.l).mpr h.f]
 rfl
def WE (S:List (bM))(K:Nat)(r:bN):Bool:=JM S K (zq r)
abbrev gS (S:List (bM))(z:bN)(K:Nat):bM:=(yK S z K (K-1)).filter (WE S K)
def mU (w:Wf K S)(H:Zs K z)(e:1<=K)(g:K=1->pS S 0 0 0=1):gS S z K=(yD S z (K-1)).reverse:=by
 unfold gS;rw[Xk H _ (by lia),List.filter_reverse]
 congr 1
 refine OI ((Kj H _ (by lia)).filter _) (Kj H _ (by lia)) λv=>?_
 rw[Nc H w.l e g,mem_filter]
 constructor
 ·rintro⟨n,j⟩
  obtain⟨_,_,_,d⟩:=Je H (K-1) (by lia) v n
  obtain⟨A,a2,a⟩:=mS w j;exact⟨A,a2,λi c=>d i (by lia),a⟩
 ·intro h
  refine⟨?_,mT w h⟩
  have:=TC (p:=gd S K) H (λk b=>mR w h.f (by lia)) h (K-1) (by lia)
  rwa[a7 (by have:=h.l;lia)]at this
def mV {K:bM}(h:K.Pairwise λa b=>yj a b=true):Ww K=true:=by
 unfold Ww;rw[aZ];intro a H;have H:=cf.mp H;cases a with
 |zero=>rfl|succ a=>
  have e:=Ut _ _ (List.pairwise_iff_getElem.mp h a (a+1) (by lia) H (by lia))
  rw[aa,ae H,aa,Nat.add_sub_cancel,ae (by lia)]
  show(_ || !yj K[a+1] K[a])=true;rw[e]
  rfl
theorem Np:∀{l:bM},(∀k∈l,k≠[])->Qi (l.map zq)=some l
 |[],_=>rfl|x::l,h=>by
  show(match intsOf (x.map W.int) with|some k=>if k=[] then none else(Qi (l.map zq)).map (k::·)|none=>none)=_
  rw[Kg];dsimp only;rw[aj (h x (aF ..)),Np λk H=>h k (aA _ H)]
  rfl
def mW (H:v.length<=100)(b:Bg v):LW A (zq v):=.inl ⟨v.map W.int,rfl,by rw[ag];exact H,λx h=>by obtain⟨i,_,rfl⟩:=cn.mp h;exact⟨rfl,.int,λ_=>rfl⟩,by rw[NX];exact b⟩
abbrev KBd:Ex:=zG (qu 5 (qL zu)) (zG (jA (qF qi) (zN 6) EB) (zG (qu 3 (qL zu)) (zG (jA (qF jw) (zN 6) RB) zX)))
def mX (d:Dt t K S z)(sh:∀a b,a<t.length->b<t.length->jh t K a b=S.getD (at2 t a b).toNat [])(h1:K=1->pS S 0 0 0=1)(J:(yD S z (K-1)).length<64):∃n B,Ry [zo t] []=.ok (.ref n) B/\B[n]? =some (.lst ((yD S z (K-1)).map zq)):=by
 have w:=d.wf;have p:=d.zs.l;have k1:=d.k1;have k8:=d.k8;have zb:∀i,i<K->0<=z.getD i 0/\z.getD i 0<=8:=λi hi=>by have:=d.zs.le hi;lia
 obtain⟨f,en,_,nB⟩:=La d.tab d.kd sh [];have L:QD [zo t] f=.ok (.ref f.length) (f++[.lst (z.map W.int)]):=d.zf f;have kb:Kb S z K f.length (f++[.lst (z.map W.int)]) (f++[.lst (z.map W.int)]):=⟨nB.ext .one,qH,.refl⟩;generalize f.length=p2 at L kb;generalize hD:f++[O.lst (z.map W.int)]=g at L kb;obtain⟨ρ',B,e,p3,x4,x5,x6,x7,x8,x9,x10,rfl,Q,g1,g2⟩:=ye (j:=jG 1 (((z.map W.int).length:Int)-1).toNat) (st:=turn (zN 4) KBd) (N:=K-1)
  (I:=λm ρ B=>∃p3 x4 x5 x6 x7 x8 x9 x10,ρ=fr p2 (zo t) (rO p3) x4 x5 x6 x7 x8 x9 x10/\g.length<=p3/\B[p3]? =some (.lst ((yK S z K m).map zq))/\Kb S z K p2 g B)
  (λm ρ B hm ⟨p3,x4,x5,x6,x7,x8,x9,x10,x,Q,g1,g2⟩=>by
   subst x;have l3:=jU g1;obtain⟨b2,b3,b4⟩:=mP (S:=S) d.zs (k:=m) (by lia)
   obtain⟨C,y6,e1,c5,cq⟩:=mK (T:=zo t) (κ:=m+1) (p3:=p3) (p5:=B.length) (B:=B++[O.lst []]) (rs:=yK S z K m) (x6:=x6) (x7:=x7) (x8:=x8) (x9:=x9) (x10:=x10) p (g2.ext .one) k8 (by lia) (zb _ (by lia)) (λr h=>by rw[b3 r h];lia) b2 (jq g1) qH Q l3
   have ck:Kb S z K p2 g C:=Kq.kb (g2.ext .one) cq (by lia)
   have l5:=jU c5;obtain⟨D,y,y7,y8,y9,Y,M,d3,dq⟩:=mM (T:=zo t) (κ:=m+1) (p3:=C.length) (p5:=B.length) (B:=C++[O.lst []]) (rs:=(yK S z K m).flatMap (yF (z.getD (m+1) 0))) (x6:=y6) (x7:=x7) (x8:=x8) (x9:=x9) (x10:=x10) w p (ck.ext .one) k8 (by lia) (λr h=>b4 r h) b2 qH (jq c5) (by lia) l5
   refine⟨.int (1+(m:Int)),fr p2 (zo t) (rO C.length) (iO (m+1)) (rO B.length) y y7 y8 y9 Y,D,j8 (by rw[ag,p];lia),?_,C.length,_,_,_,_,_,_,_,rfl,by lia,d3,Kq.kb (ck.ext .one) dq (by lia)⟩
   rw[show(1:Int)+(m:Int)=((m+1:Nat):Int) by lia]
   exact(jB rfl).trans ((zy ((qg (jI zJ)).trans rfl)).trans ((zy e1).trans ((zy ((qg (jI zJ)).trans rfl)).trans ((zy M).trans qx)))))
  (λρ B _=>j7 (by rw[ag,p];lia)) (K-1) 0 (fr p2 (zo t) (rO g.length) none none none none none none none) (g++[O.lst [zq [1]]]) (by lia)
  ⟨_,_,_,_,_,_,_,_,rfl,ao _,qH,kb.ext .one⟩
 have U:=Xk (S:=S) d.zs (K-1) (by lia)
 have fl:(yK S z K (K-1)).length<=2187:=by rw[U,length_reverse];exact UP d.zs (by lia)
 have fs:∀r∈yK S z K (K-1),r.length=K/\Bg r:=λr h=>by
  rw[U]at h;obtain⟨s1,s2,_⟩:=Je d.zs (K-1) (by lia) r (List.mem_reverse.mp h)
  exact⟨by lia,OO λv hv=>by have:=s2 v hv;lia⟩
 obtain⟨ρ2,c2,q,Z,x2,rfl,_⟩:=Ya (nl:=1) (cap:=[0]) (mi:=qF qi) (ρ:=fr p2 (zo t) (rO p3) x4 x5 x6 x7 x8 x9 x10) (A:=B) (tw:=zN 0) (ifs:=zU JX (zi zF (zi zH zu))) (em:=ql zH) (N:=(yK S z K (K-1)).length)
  (I:=λk ρ c C=>Ext B C/\c=(((yK S z K (K-1)).take k).filter (WE S K)).map zq/\∃P,ρ=[P,some (zo t)]) (Z7 (zh rfl) g1) (by rw[ag])
  (λk ρ c C H ⟨x1,M,P,e3⟩=>by
   subst M e3;obtain⟨r1,r2⟩:=fs _ (aL H);obtain⟨C2,ea,xa⟩:=mF (A:=C) w d.tab d.kd sh (mW (v:=(yK S z K (K-1))[k]) (by lia) r2)
   have E:zU JX (zi zF (zi zH zu)) [some (zq (yK S z K (K-1))[k]),some (zo t)] C=.ok (.bl (WE S K (yK S z K (K-1))[k])) C2:=(zR (zr (ma:=zF) (zh rfl) (zr (ma:=zH) (zh rfl) zJ))).trans ea;refine⟨zq (yK S z K (K-1))[k],[some (zq (yK S z K (K-1))[k]),some (zo t)],(kD (x1.at g1)).trans (by rw[av,ae H];rfl),rfl,?_⟩
   have X:=x1.trans xa;cases hf:WE S K (yK S z K (K-1))[k] with
   |true=>
    rw[hf]at E;refine .inl ⟨_,_,_,_,E,Yi (zh rfl) ?_,X,?_,_,rfl⟩
    ·rw[ag]
     have:=length_filter_le (WE S K) ((yK S z K (K-1)).take k)
     rw[bx]at this;unfold zT;lia
    ·rw[take_succ H,filter_append,aN,List.filter_cons_of_pos hf,filter_nil];rfl
   |false=>
    rw[hf]at E;refine .inr ⟨_,E,X,?_,_,rfl⟩;rw[take_succ H,filter_append,List.filter_cons_of_neg (by rw[hf];decide),filter_nil,aX])
  (λρ c C ⟨x1,_⟩=>(kD (x1.at g1)).trans (by rw[az (by rw[ag];exact ao _)]))
  ⟨.refl,by rw[take_zero];rfl,_,rfl⟩
 rw[a7 (ao _)]at Z;have e7:=yW Z;have u:=mU w d.zs k1 h1;have tk:Qi ((gS S z K).map zq)=some (gS S z K):=Np λk H e=>by
  have:=(fs k (List.mem_filter.mp H).1).1
  rw[e]at this;simp at this;lia
 have e6:Xq (.ref q.length) (q++[O.lst ((gS S z K).map zq)])=.ok (.ref (q++[O.lst ((gS S z K).map zq)]).length) (q++[O.lst ((gS S z K).map zq)]++[O.lst ((gS S z K).map zq)]):=by unfold Xq;dsimp only;rw[qH];dsimp only;rw[tk];dsimp only;rw[ai ⟨by rw[u,length_reverse];exact J,mV (by rw[u,List.pairwise_reverse];exact Kj d.zs _ (by lia))⟩]
 generalize hB3:q++[O.lst ((gS S z K).map zq)]=o at e6 e7;have e5:T8 (Tf (jN (qy 1 [0] (qF qi) (zN 0) (zU JX (zi zF (zi zH zu))) (ql zH)))) (yU Qr jv) (fr p2 (zo t) (rO p3) x4 x5 x6 x7 x8 x9 x10) B=.ok (.ref (o++[O.lst ((gS S z K).map zq)]).length) (o++[O.lst ((gS S z K).map zq)]++[.lst ((yD S z (K-1)).map zq)]):=by
  unfold T8 Tf;rw[e7,zI,e6,zI];show(match (o++[O.lst ((gS S z K).map zq)])[o.length]? with|some (.lst ws)=>_|_=>_)=_
  rw[qH];show R.ok _ (_++[O.lst ((gS S z K).map zq).reverse])=_;rw[u,List.map_reverse,List.reverse_reverse]
 refine⟨(o++[O.lst ((gS S z K).map zq)]).length,o++[O.lst ((gS S z K).map zq)]++[.lst ((yD S z (K-1)).map zq)],qP ?_,qH⟩;dsimp only[Vv,mq];refine(zy (U7 (wF (zr ((zR (zr (zh rfl) zJ)).trans en) (zr ((zR (zr (zh rfl) zJ)).trans L) zJ))) rfl)).trans ?_;refine(zy (ρ1:=fr p2 (zo t) (rO g.length) none none none none none none none) (A1:=g++[O.lst [zq [1]]]) ((qg (jI (zr (wF (zr zP zJ)) zJ))).trans rfl)).trans ?_;refine(zy ((jo (U6 (i:=1) (j:=((z.map W.int).length:Int)) zP (Jm rfl (jq kb.z_)) (by decide) (Jf (by rw[ag];lia) (by rw[ag];lia)))).trans ?_)).trans (qp (qI e5))
 rw[show(jG 1 (((z.map W.int).length:Int)-1).toNat).len=K-1 by show(((z.map W.int).length:Int)-1).toNat=_;rw[ag,p];lia]
 exact e
def mY (d:Dt t K S z)(sh:∀a b,a<t.length->b<t.length->jh t K a b=S.getD (at2 t a b).toNat [])(H:K=1->pS S 0 0 0=1)(h:(yD S z (K-1)).length<64)(A:Hx):Q7 [zo t] A=.ok (.ref A.length) (A++[.lst ((yD S z (K-1)).map zq)]):=by obtain⟨n,B,E,e⟩:=mX d sh H h;exact GU (Zi t) E e (Z4 KH _)
end
section
variable {K:Nat}
structure Tb (t:bM)(K:Nat):Prop where
 d:Dt t K (SL t K) (qz t K)
 s:jK t
def Tb.sh (h:Tb t K):∀a b,a<t.length->b<t.length->jh t K a b=(SL t K).getD (at2 t a b).toNat []:=Wd h.d.tab h.s h.d.kd
def Tb.al (h:Tb t K)(H:(Rw t K).length<64)(A:Hx):Q7 [zo t] A=.ok (.ref A.length) (A++[.lst ((Rw t K).map zq)]):=mY h.d h.sh (Ll h.d.tab h.s h.d.kd) H A
def Mz (c:i<12){p o:bS}(H:p.Perm (List.range (qh (bT i)-1).toNat))(a:o.Perm (List.range (bT i).length)):∃K,Tb (wI (bT i) p o) K/\((Rw (wI (bT i) p o) K).length=K↔i<9):=by obtain⟨B,b,e,d⟩:=Sj c;have h:=lY B e H a;have S:=Eu B H a b;refine⟨_,⟨lW h.ht S h.kt,S⟩,?_⟩;rw[<- d,<- (l9 h b S).length_eq,ag]
def mZ (A:Hx):Ke [.int 5] A=.ok (zo (bT 0)) A:=wG rfl (by decide +kernel) A
def m3 (A:Hx):ZG [.int 6] A=.ok (zo (bT 1)) A:=wG rfl (by decide +kernel) A
def m4 (A:Hx):RX [.int 2,.int 3] A=.ok (zo (bT 3)) A:=wG rfl (by decide +kernel) A
def m5 (A:Hx):RT [.int 3] A=.ok (zo (bT 4)) A:=wG rfl (by decide +kernel) A
def m6 (A:Hx):R5 [.int 4] A=.ok (zo (bT 6)) A:=wG rfl (by decide +kernel) A
def m7 (A:Hx):RR [zo (gK 2),zo (gK 3)] A=.ok (zo (bT 7)) A:=wG rfl (by decide +kernel) A
def m8 (A:Hx):RN [zo (gK 2),zo (bT 2)] A=.ok (zo (bT 8)) A:=wG rfl (by decide +kernel) A
def m9 (A:Hx):ZG [.int 5] A=.ok (zo (bT 9)) A:=wG rfl (by decide +kernel) A
def nc (A:Hx):ZG [.int 7] A=.ok (zo (bT 10)) A:=wG rfl (by decide +kernel) A
def nh (A:Hx):ZG [.int 8] A=.ok (zo (bT 11)) A:=wG rfl (by decide +kernel) A
abbrev n6:List W:=[zo (bT 0),zo (bT 1),zo (bT 2),zo (bT 3),zo (bT 4),zo (bT 5)]
abbrev n3:List W:=[zo (bT 6),zo (bT 7),zo (bT 8)]
def AU (s:qY n A):∃t K o,Tb t K/\(Rw t K).length=K/\J0 [.ref n] A=.ok (zo t) (A.set n o)/\qY n (A.set n o):=by
 obtain⟨x,b,c,g,v⟩:=s;have I:=jU c;obtain⟨r,a,B,d,C,D⟩:=Yv (n:=0) (A:=[.lst [.int x,.bl b]]) ⟨x,b,rfl,g,v⟩ (m:=9) (by decide) (by decide)
 obtain⟨i,rfl⟩:=a5 d;have H:i<9:=by lia
 have S:qY 0 [a,.lst n6,.lst n3,.lst (n6++n3)]:=by obtain⟨y,z,Q,q⟩:=D;exact⟨y,z,Q,q⟩
 obtain⟨p,o,f,E,⟨y,z,Q,q,e⟩,j,l⟩:=Oo (Sj (i:=i) (by lia)).1 S
 obtain⟨K,T,u⟩:=Mz (i:=i) (by lia) j l
 refine⟨_,K,.lst [.int y,.bl z],T,u.mpr H,?_,y,z,aw I,q,e⟩;refine GS (A1:=[a,.lst n6,.lst n3,.lst (n6++n3)].set 0 f) c rfl ?_ Q (ZK _);refine qP ?_;dsimp only[VC,mq];refine(zy (ρ1:=[rO 0,iO i,none]) (A1:=[a]) (qg ((zR (zr (zh rfl) (zr zP zJ))).trans B))).trans ?_;refine(zy (ρ1:=[rO 0,iO i,rO 1]) (A1:=[a,.lst n6]) (qg (jI (ws:=n6) (zr (c1 zP (mZ _)) (zr (c1 zP (m3 _)) (zr (c1 zP (Ij _)) (zr (c2 zP zP (m4 _)) (zr (c1 zP (m5 _)) (zr (c1 zP (mB _)) zJ))))))))).trans ?_;refine(zy (ρ1:=[rO 0,iO i,rO 3]) (A1:=[a,.lst n6,.lst n3,.lst (n6++n3)]) (qg ((zA (zh rfl) (jI (ws:=n3) (A1:=[a,.lst n6]) (zr (c1 zP (m6 _)) (zr (c2 (c1 zP (L6 _)) (c1 zP (mz _)) (m7 _)) (zr (c2 (c1 zP (L6 _)) (c1 zP (Ij _)) (m8 _)) zJ))))).trans (Kr rfl rfl (by decide))))).trans ?_
 refine qp (qI ((zR (zr (zh rfl) (zr ((zA (zh rfl) (zh rfl)).trans (wa (s:=i) rfl (w:=zo (bT i)) ?_)) zJ))).trans E))
 match i,H with
 |0,_=>rfl|1,_=>rfl|2,_=>rfl|3,_=>rfl|4,_=>rfl|5,_=>rfl|6,_=>rfl|7,_=>rfl|8,_=>rfl
 |i+9,h=>exact absurd h (by lia)
def ni (h:i<12)(b:¬i<9)(s:qY n A):∃t K o,Tb t K/\(Rw t K).length≠K/\ZY [.ref n,zo (bT i)] A=.ok (zo t) (A.set n o)/\qY n (A.set n o):=by obtain⟨p,q,o,e,S,a,H⟩:=Oo (Sj h).1 s;obtain⟨K,T,l⟩:=Mz h a H;exact⟨_,K,o,T,λz=>b (l.mp z),e,S⟩
variable {a b:Int}{w x y:bN}{k:Nat}{c:Ev}{body:Ex}
def Ov (H:0<=a)(h:0<b):Int.gcd b (a%b)=Int.gcd a b:=by rw[Int.gcd_comm a b,Int.emod_def,Int.mul_comm];simp
def half (d:0<=a)(c:0<b)(H:0<a%b)(h:b<2 ^ (k+1)):b%(a%b)<(2:Int) ^ k:=by
 have i:=bh a c;have g:=bh b H;have f:=bw b (show a%b≠0 by lia)
 rw[pow_succ]at h
 by_cases q:2 * (a%b)<=b
 ·lia
 ·have e:b%(a%b)=b-a%b:=by rw[<- Int.sub_emod_right b (a%b)];exact Int.emod_eq_of_lt (by lia) (by lia)
  lia
def M1 {st:Int->Int->En}(e:∀a b,c (st a b) A=.ok (.bl (decide (b≠0))) A)(j:∀a b,0<b->body (st a b) A=.ok (.nx (st b (a%b))) A):
  ∀k a b f,0<=a->0<=b->b<(2:Int) ^ k->2 * k+1<=f->wK c body f (st a b) A=.ok (.nx (st (Int.gcd a b) 0)) A:=by
 have stop:∀a f,0<=a->1<=f->wK c body f (st a 0) A=.ok (.nx (st (Int.gcd a 0) 0)) A:=λa f H l=>by
  obtain⟨f,rfl⟩:∃g,f=g+1:=⟨f-1,by lia⟩
  unfold wK;rw[e,zI,Int.gcd_zero_right,Int.natAbs_of_nonneg H]
  rfl
 have go:∀a b f,0<b->wK c body (f+1) (st a b) A=wK c body f (st b (a%b)) A:=λa b f d=>by
  rw[wK.eq_2,e,zI,ax (show b≠0 by lia)]
  dsimp only;rw[j a b d,zI]
 intro k
 induction k with
 |zero=>
  intro a b f H d h l
  have:b=0:=by have:(2:Int) ^ 0=1:=rfl;lia
  subst this;exact stop a f H (by lia)
 |succ k I=>
  intro a b f H d h l
  by_cases q:b=0
  ·subst q
   exact stop a f H (by lia)
  have B:0<b:=by lia
  have i:=bw a q;obtain⟨f,rfl⟩:∃g,f=g+2:=⟨f-2,by lia⟩
  rw[go a b (f+1) B,<- Ov H B]
  by_cases Q:a%b=0
  ·rw[Q]
   exact stop b (f+1) d (by lia)
  ·have r:0<a%b:=by lia
   rw[go b (a%b) f r,<- Ov d r];exact I _ _ f i (bw b Q) (half H B r h) (by lia)
noncomputable def Y1 (a b:Int):W:=.tup [.int (a/(Int.gcd a b:Int)),.int (b/(Int.gcd a b:Int))]
def M3 (H:0<b)(h:b<1152921504606846976):0<(Int.gcd a b:Int)/\(Int.gcd a b:Int)<1152921504606846976:=by
 have d:=Int.gcd_pos_of_ne_zero_right (a:=a) (show b≠0 by lia)
 have c:=Int.le_of_dvd H (Int.gcd_dvd_right a b);lia
def O4:(Int.gcd (if a<0 then -a else a) b)=Int.gcd a b:=by
 by_cases q:a<0
 ·rw[ai q,Int.neg_gcd]
 ·rw[aj q]
def Es:(b != 0)=decide (b≠0):=by by_cases q:b=0<;>simp[q]
def nj (c:0<=a)(H:0<=b)(h:b<2 ^ 100)(A:Hx):Vw [.int a,.int b] A=.ok (.int (Int.gcd a b)) A:=by
 refine wH (A1:=[]) rfl rfl (qP ?_);dsimp only[Vu,mq];exact(zy (M1 (st:=λa b=>[iV a,iV b]) (λa b=>by rw[<- Es];rfl) (λa b H=>by
  unfold XD;refine(zy (ρ1:=[iV b,iV (a%b)]) (A1:=[]) ?_).trans qx;rw[show zM 1 [iV a,iV b] []=.ok (.int b) [] from rfl,zI,(zA (zh rfl) (zh rfl)).trans (Qf H),zI]
  rfl) 100 a b 1000 c H h (by lia))).trans (qp (qI (zh rfl)))
def nk (H:0<b)(h:b<1152921504606846976)(A:Hx):Ou [.int a,.int b] A=.ok (Y1 a b) A:=by
 have g:=M3 (a:=a) H h;refine wH (A1:=[]) (w:=Y1 a b) rfl rfl (qP ?_);dsimp only[Uv,mq];have e:zU Vw (zi (yU Ss zH) (zi zF zu)) [iV a,iV b,none] []=.ok (.int (Int.gcd a b)) []:=by
  refine(zR (zr (x:=.int (if a<0 then -a else a)) rfl (zr (zh rfl) zJ))).trans ?_;rw[nj (by split<;>lia) (by lia) (by lia) [],O4]
 exact(zy (qg e)).trans (qp (qI (wF (zr ((zA (zh rfl) (zh rfl)).trans (Qd g.1 g.2)) (zr ((zA (zh rfl) (zh rfl)).trans (Qd g.1 g.2)) zJ)))))
def nq (d:0<b)(h:b<1152921504606846976)(A:Hx):J3 [.int a,.int b] A=.ok (Y1 a b) A:=by
 have g:=M3 (a:=a) d h;refine wH (A1:=[]) (w:=Y1 a b) rfl rfl (qP ?_);dsimp only[VI,mq];refine(zy (ρ1:=[iV a,iV b,iV (if a<0 then -a else a),iV b]) (A1:=[]) rfl).trans ?_;have e:=M1 (c:=zj ju qi qD) (body:=zG (XD 2 3 qi (zj Jt qc qi)) zX) (A:=[]) (st:=λx y=>[iV a,iV b,iV x,iV y]) (λx y=>(zA (zh rfl) zP).trans ((JU _ _ _).trans (by rw[decide_not]))) (λx y H=>by
  unfold XD;refine(zy (ρ1:=[iV a,iV b,iV y,iV (x%y)]) (A1:=[]) ?_).trans qx;rw[show qi [iV a,iV b,iV x,iV y] []=.ok (.int y) [] from rfl,zI,(zA (zh rfl) (zh rfl)).trans (Qf H),zI]
  rfl) 100 (if a<0 then -a else a) b 1000 (by split<;>lia) (by lia) (by lia) (by lia)
 rw[O4]at e;exact(zy e).trans (qp (qI (wF (zr ((zA (zh rfl) (zh rfl)).trans (Qd g.1 g.2)) (zr ((zA (zh rfl) (zh rfl)).trans (Qd g.1 g.2)) zJ)))))
variable {z:bN}{j l:Nat}{S:List (bM)}
noncomputable def tb (z w:bN):Nat->Int×Int
 |0=>(0,1)|k+1=>((tb z w k).1 * z.getD k 0+w.getD k 0 * w.getD k 0 * (tb z w k).2,(tb z w k).2 * z.getD k 0)
def Sv {v:Int}(h:-9<v/\v<9):0<=v * v/\v * v<=64:=by
 have a:v.natAbs<=8:=by lia
 have:=Nat.mul_le_mul a a
 rw[← Int.natAbs_mul_self];lia
theorem So (H:Zs K z)(o:w.length=K)(c:∀v∈w,-9<v/\v<9)(l:w.getD 0 0=1):∀k,k<=K->(0<(tb z w k).2/\(tb z w k).2<=(8:Int) ^ k)/\(0<=(tb z w k).1/\(tb z w k).1<=64 * (k:Int) * (8:Int) ^ k)/\(1<=k->0<(tb z w k).1)
 |0,_=>by
  refine⟨?_,?_,λh=>absurd h (by lia)⟩
  ·show 0<(1:Int)/\(1:Int)<=8 ^ 0
   decide
  ·show 0<=(0:Int)/\(0:Int)<=64 * ((0:Nat):Int) * 8 ^ 0
   decide
 |k+1,i=>by
  obtain⟨⟨g,d⟩,⟨c1,c2⟩,e⟩:=So H o c l k (by lia)
  have Z:=H.le (k:=k) (by lia)
  have b:=Sv (c _ (getD_mem (w:=w) (k:=k) (by lia)))
  have p:(0:Int)<8 ^ k:=Int.pow_pos (by decide)
  have f:k=0->w.getD k 0 * w.getD k 0=1:=λq=>by subst q;rw[l];rfl
  unfold tb;generalize (tb z w k).1=T at*;generalize (tb z w k).2=B at*;generalize w.getD k 0 * w.getD k 0=a at*;have N:=bB c1 (show 0<=z.getD k 0 by lia)
  have n:=bB b.1 (show 0<=B by lia)
  refine⟨⟨mul_pos g (by lia),?_⟩,⟨?_,?_⟩,λ_=>?_⟩
  ·rw[pow_succ]
   exact Int.mul_le_mul d Z.2 (by lia) (by lia)
  ·exact Int.add_nonneg N n
  ·have t:T * z.getD k 0<=64 * (k:Int) * 8 ^ k * 8:=Int.mul_le_mul c2 Z.2 (by lia) (bB (by lia) (by lia))
   have r:a * B<=64 * 8 ^ k:=Int.mul_le_mul b.2 d (by lia) (by lia)
   have j:64 * ((k+1:Nat):Int) * (8:Int) ^ (k+1)=64 * (k:Int) * 8 ^ k * 8+512 * 8 ^ k:=by
    rw[pow_succ]
    grind
   show T * z.getD k 0+a * B<=_;lia
  ·show 0<T * z.getD k 0+a * B
   by_cases q:k=0
   ·rw[f q]at n ⊢
    lia
   ·have:=mul_pos (e (by lia)) (show 0<z.getD k 0 by lia)
    lia
def JS {k:Nat}(h:k<=8):(8:Int) ^ k<=16777216:=by
 have:=Nat.pow_le_pow_right (show 8>0 by decide) h
 have:(8:Int) ^ k=((8 ^ k:Nat):Int):=(Int.natCast_pow 8 k).symm
 lia
def nt (h:Zs K z)(a:K<=8)(d:w.length=K)(b:∀v∈w,-9<v/\v<9)(e:w.getD 0 0=1)(H:k<=K):(0<(tb z w k).2/\(tb z w k).2<=16777216)/\0<=(tb z w k).1/\(tb z w k).1<=8589934592:=by
 obtain⟨⟨c,B⟩,⟨c1,c2⟩,_⟩:=So h d b e k H;have p:=JS (k:=k) (by lia)
 have P:(0:Int)<8 ^ k:=Int.pow_pos (by decide)
 have:64 * (k:Int) * 8 ^ k<=512 * 16777216:=Int.mul_le_mul (by lia) p (by lia) (by decide)
 lia
def k9 (n K:Nat)(z w:bN):Int:=(n:Int) * (tb z w K).2/(tb z w K).1
def K4 (d:Dt t K S z)(h:Wt K S z w):0<(tb z w K).1/\0<=k9 t.length K z w/\k9 t.length K z w<=134217728:=by
 have H:=h.sm d.zs;have n:=d.tab.n8;have a:=d.k8;obtain⟨⟨B,b⟩,_,tp⟩:=So d.zs h.l H h.o K (ao _);have tp:=tp d.k1;have p:=JS a;refine⟨tp,ediv_nonneg (bB (by lia) (by lia)) (by lia),?_⟩
 unfold k9;have c:(t.length:Int) * (tb z w K).2<=8 * 16777216:=Int.mul_le_mul (by lia) (by lia) (by lia) (by lia)
 exact Int.le_trans (Int.ediv_le_self _ (bB (by lia) (by lia))) c
def G4 (d:Dt t K S z)(h:Wt K S z w)(A:Hx):RZ [zo t,zq w] A=.ok (.int (k9 t.length K z w)) A/\QC [zo t,zq w] A=.ok (.int (k9 t.length K z w)) A:=by
 have r:=h.l;have q:=d.zs.l;have P:=d.k1;have L:=d.k8;have g:=h.sm d.zs;have M:=d.tab.n8;have C:=λk (b:k<=K)=>nt (k:=k) d.zs L r g h.o b;have D:qN [zo t,zq w]=true:=by show((zo t).nr&&((zq w).nr&&true))=true;rw[ZK,KH];rfl
 have Z:(z.map W.int).length=K:=by rw[ag,q]
 have tp:=(K4 d h).1;obtain⟨⟨p,i⟩,c1,c2⟩:=C K (ao _);have step:∀k,k<K->(wq (.ref 0) (zq w) (z.map W.int).length).at_ [.lst (z.map W.int)] k=some (some (.tup [.int (z.getD k 0),.int (w.getD k 0)])):=λk b=>(G9 (n:=0) (us:=z.map W.int) rfl k _).trans (by rw[int_at (by lia),int_at (by lia)];rfl)
 have stop:(wq (.ref 0) (zq w) (z.map W.int).length).at_ [.lst (z.map W.int)] K=some none:=(G9 (n:=0) (us:=z.map W.int) rfl K _).trans (by rw[az (by rw[ag];lia)];rfl)
 constructor
 ·have E:gC (zU J4 (zi zH zu)) zF [some (zo t),some (zq w),iV 0,iV 1,none,none] []=.ok (wq (.ref 0) (zq w) (z.map W.int).length) [.lst (z.map W.int)]:=by
   have u:zU J4 (zi zH zu) [some (zo t),some (zq w),iV 0,iV 1,none,none] []=.ok (.ref 0) [.lst (z.map W.int)]:=(zR (zr (zh rfl) zJ)).trans (d.zf []);unfold gC;rw[u,zI,show zF [some (zo t),some (zq w),iV 0,iV 1,none,none] [.lst (z.map W.int)]=.ok (zq w) [.lst (z.map W.int)] from zh rfl,zI]
   rfl
  obtain⟨c,B,e,H,Y,y,rfl⟩:=ye (j:=wq (.ref 0) (zq w) (z.map W.int).length) (st:=turn (jD 4 5) (zG (qu 2 (zj qR (zj qd qc qv) (zj qd (zj qd jw jw) qi))) (zG (qu 3 (zj qd qi qv)) zX))) (N:=K) (I:=λk x B=>B=[.lst (z.map W.int)]/\∃Y y,x=[some (zo t),some (zq w),iV (tb z w k).1,iV (tb z w k).2,Y,y])
   (λk x B b ⟨H,Y,y,a⟩=>by
    subst H a;obtain⟨⟨p,i⟩,c1,c2⟩:=C k (by lia)
    have f:=g _ (getD_mem (w:=w) (k:=k) (by lia))
    have J:=Sv f;refine⟨_,_,_,step k b,(jB (ρ1:=[some (zo t),some (zq w),iV (tb z w k).1,iV (tb z w k).2,iV (z.getD k 0),iV (w.getD k 0)]) rfl).trans ((zy (qg ((zA ((zA (zh rfl) (zh rfl)).trans jt) ((zA ((zA (zh rfl) (zh rfl)).trans jt) (zh rfl)).trans jt)).trans rfl))).trans ((zy (qg ((zA (zh rfl) (zh rfl)).trans jt))).trans qx)),rfl,_,_,rfl⟩)
   (λx B ⟨H,_⟩=>by subst H;exact stop)
   K 0 [some (zo t),some (zq w),iV 0,iV 1,none,none] [.lst (z.map W.int)] (by lia) ⟨rfl,_,_,rfl⟩
  subst H;refine wH (A1:=[.lst (z.map W.int)]) D rfl (qP ?_);dsimp only[VY,mq];refine(zy (qg zP)).trans ((zy (qg zP)).trans ((zy ((jo E).trans (by show jS _ _ (z.map W.int).length 0 _ _=_;rw[Z]at e ⊢;exact e))).trans (qp (qI ((zA ((zA (len_tab (t:=t) rfl) (zh rfl)).trans jt) (zh rfl)).trans (Qd tp (by lia)))))))
 ·have E:gC qc zF [some (zo t),some (zq w),rO 0,iV 0,iV 1,none,none] [.lst (z.map W.int)]=.ok (wq (.ref 0) (zq w) (z.map W.int).length) [.lst (z.map W.int)]:=rfl
  obtain⟨c,B,e,H,Y,y,rfl⟩:=ye (j:=wq (.ref 0) (zq w) (z.map W.int).length) (st:=turn (jD 5 6) (zG (qu 3 (zj qR (zj qd qi jw) (zj qd (zj qd yB yB) qv))) (zG (qu 4 (zj qd qv jw)) zX))) (N:=K) (I:=λk x B=>B=[.lst (z.map W.int)]/\∃Y y,x=[some (zo t),some (zq w),rO 0,iV (tb z w k).1,iV (tb z w k).2,Y,y])
   (λk x B b ⟨H,Y,y,a⟩=>by
    subst H a;obtain⟨⟨p,i⟩,c1,c2⟩:=C k (by lia)
    have f:=g _ (getD_mem (w:=w) (k:=k) (by lia))
    have J:=Sv f;refine⟨_,_,_,step k b,(jB (ρ1:=[some (zo t),some (zq w),rO 0,iV (tb z w k).1,iV (tb z w k).2,iV (z.getD k 0),iV (w.getD k 0)]) rfl).trans ((zy (qg ((zA ((zA (zh rfl) (zh rfl)).trans jt) ((zA ((zA (zh rfl) (zh rfl)).trans jt) (zh rfl)).trans jt)).trans rfl))).trans ((zy (qg ((zA (zh rfl) (zh rfl)).trans jt))).trans qx)),rfl,_,_,rfl⟩)
   (λx B ⟨H,_⟩=>by subst H;exact stop)
   K 0 [some (zo t),some (zq w),rO 0,iV 0,iV 1,none,none] [.lst (z.map W.int)] (by lia) ⟨rfl,_,_,rfl⟩
  subst H;refine wH (A1:=[.lst (z.map W.int)]) D rfl (qP ?_);dsimp only[V6,mq];have v:zU QD (zi zH zu) [some (zo t),some (zq w),none,none,none,none,none] []=.ok (.ref 0) [.lst (z.map W.int)]:=(zR (zr (zh rfl) zJ)).trans (d.zf []);refine(zy (qg v)).trans ((zy (ρ1:=[some (zo t),some (zq w),rO 0,iV 0,iV 1,none,none]) (A1:=[.lst (z.map W.int)]) rfl).trans ((zy ((jo E).trans (by show jS _ _ (z.map W.int).length 0 _ _=_;rw[Z]at e ⊢;exact e))).trans (qp (qI ((zA ((zA (len_tab (t:=t) rfl) (zh rfl)).trans jt) (zh rfl)).trans (Qd tp (by lia)))))))
variable {P:Int}{m:Nat}{u:Nat->Int}
noncomputable def pz (z:bN):Nat->Int
 |0=>1|k+1=>pz z k * z.getD k 0
noncomputable def tp (P:Int)(z:bN)(u:Nat->Int):Nat->Int
 |0=>0|k+1=>tp P z u k+u k * (P/z.getD k 0) ^ 2
noncomputable def gQ (z:bN)(u:Nat->Int):Nat->Int×Int
 |0=>(0,1)|k+1=>((gQ z u k).1 * (z.getD k 0 * z.getD k 0)+u k * (gQ z u k).2,(gQ z u k).2 * (z.getD k 0 * z.getD k 0))
theorem YS (H:Zs K z):∀k,k<=K->0<pz z k/\pz z k<=8 ^ k
 |0,_=>⟨(by decide:(0:Int)<1),by show(1:Int)<=8 ^ 0;decide⟩|k+1,h=>by
  obtain⟨b,a⟩:=YS H k (by lia)
  have Z:=H.le (k:=k) (by lia)
  refine⟨mul_pos b (by lia),?_⟩
  rw[pow_succ];exact Int.mul_le_mul a Z.2 (by lia) (by lia)
def nv (h:l<m):z.getD l 0 ∣ pz z m:=by
 induction m with
 |zero=>lia|succ m i=>
  by_cases q:l=m
  ·subst q
   exact Int.dvd_mul_left _ _
  ·exact Int.dvd_trans (i (by lia)) (Int.dvd_mul_right _ _)
theorem Nl (H:Zs K z)(a:m<K):∀k,k<=m->tp (pz z (m+1)) z u k=tp (pz z m) z u k * (z.getD m 0 * z.getD m 0)
 |0,_=>by show(0:Int)=0 * _;rw[zero_mul]|k+1,h=>by
  have i:=Nl H a k (by lia)
  have e:pz z (m+1)/z.getD k 0=pz z m/z.getD k 0 * z.getD m 0:=Int.mul_ediv_assoc' (z.getD m 0) (nv (by lia))
  unfold tp;rw[i,e];generalize pz z m/z.getD k 0=q
  grind
theorem lt_eq (H:Zs K z):∀m,m<=K->gQ z u m=(tp (pz z m) z u m,pz z m * pz z m)
 |0,_=>rfl|m+1,h=>by
  have i:=lt_eq H m (by lia)
  have Z:=H.le (k:=m) (by lia)
  have e:pz z (m+1)/z.getD m 0=pz z m:=Int.mul_ediv_cancel _ (by lia)
  unfold gQ;rw[i];show(_,_)=(tp (pz z (m+1)) z u m+u m * (pz z (m+1)/z.getD m 0) ^ 2,pz z (m+1) * pz z (m+1));rw[Nl H (by lia) m (ao _),e]
  refine Prod.ext ?_ ?_
  ·show _+u m * (pz z m * pz z m)=_+u m * pz z m ^ 2
   grind
  ·show pz z m * pz z m * (z.getD m 0 * z.getD m 0)=pz z m * z.getD m 0 * (pz z m * z.getD m 0)
   grind
theorem LK (a:0<=P)(H:P<=16777216)(c:Zs K z)(d:∀k,k<K->-512<=u k/\u k<=512):∀k,k<=K->-(144115188075855872 * (k:Int))<=tp P z u k/\tp P z u k<=144115188075855872 * (k:Int)
 |0,_=>by show -(144115188075855872 * ((0:Nat):Int))<=0/\(0:Int)<=144115188075855872 * ((0:Nat):Int);decide|k+1,h=>by
  have i:=LK a H c d k (by lia)
  have U:=d k (by lia)
  have Q:0<=P/z.getD k 0:=ediv_nonneg a (by have:=c.le (k:=k) (by lia);lia)
  have b:P/z.getD k 0<=16777216:=Int.le_trans (Int.ediv_le_self _ a) H;unfold tp;generalize P/z.getD k 0=q at*;have e:q ^ 2=q * q:=by grind
  have f:q * q<=16777216 * 16777216:=Int.mul_le_mul b b Q (by decide)
  have S:0<=q * q:=bB Q Q;rw[e];generalize q * q=r at*;have A:u k * r<=512 * r:=Int.mul_le_mul_of_nonneg_right U.2 S;have a2:-512 * r<=u k * r:=Int.mul_le_mul_of_nonneg_right U.1 S;lia
end
section
variable {K:Nat}{w:W}
def rw_T (h:Tb t K)(H:(Rw t K).length=K)(A:Hx):JY [zo t] A=.ok .non (A++[.lst ((Rw t K).map zq)]):=by refine UQ (ρ:=[some (zo t)]) ?_;dsimp only[Y7];have e:=NP h.d A;rw[ax H]at e;exact(zy ((jX (kP ((zR (zr (zh rfl) zJ)).trans e))).trans qx)).trans qx
def rw_X (h:Tb t K)(H:(Rw t K).length≠K)(A:Hx):JY [zo t] A=.exc "NotWhole" (A++[.lst ((Rw t K).map zq)]):=by refine QJ ?_;dsimp only[Y7];have e:=NP h.d A;rw[aG H]at e;exact gu ((kh (kP ((zR (zr (zh rfl) zJ)).trans e))).trans (gu rfl))
def rw_E (h:QA [w] A=.exc x A1):JY [w] A=.exc x A1:=by
 refine QJ ?_;dsimp only[Y7];have e:Vy [w] A=.exc x A1:=by refine QJ ?_;dsimp only[WT];exact gu (U3 ((zR (zr (zh rfl) zJ)).trans h))
 refine gu ?_;unfold jQ kj;rw[(zR (zr (zh rfl) zJ)).trans e]
 rfl
def yn (K:Nat)(w:W):Bool:=gi w&&(decide (0<=vI w)&&decide (vI w<K))
def ny (h:Cw w)(K:Nat)(A:Hx):VA [w,.int K] A=.ok (.bl (yn K w)) A:=by
 obtain⟨a,ty,H⟩:=h;refine wH (A1:=[]) (by show(w.nr&&true)=true;rw[a];rfl) rfl ?_
 unfold RA;dsimp only[VB,mq];refine qP (qp (qI ?_));have e:=(zR (zr (zh (i:=0) (ρ:=[some w,some (.int (K:Int))]) (A:=[]) rfl) zJ)).trans (O3 (H []));unfold yn;cases hi:gi w with
 |false=>rw[hi]at e;exact Ys e|true=>
  rw[hi]at e;refine(QQ e).trans ?_;cases w with
  |int v=>
   unfold wQ;rw[show qa (.int 0) [some (W.int v),some (W.int (K:Int))] []=.ok (.int 0) [] from rfl,zI,show zM 0 [some (W.int v),some (W.int (K:Int))] []=.ok (.int v) [] from rfl,zI,show JV (.int 0) (.int v) []=.ok (.bl (decide (0<=v))) [] from rfl,zI]
   show _=R.ok (W.bl (decide (0<=v)&&decide (v<(K:Int)))) [];cases decide (0<=v)<;>rfl
  |_=>cases hi
variable {n4:Nat}{a b c:W}{rs:List W}{T:W}
def Uk {S:W->Ex}(h:j.at_ A i=some (some w))(H:S w ρ A=.exc x A1):jS j S (n+1) i ρ A=.exc x A1:=by unfold jS;rw[h];dsimp only;rw[H,UG]
abbrev CB:Ex:=zG (jQ (λa A=>(kj (zU VA (zi jw (zi (mQ qe (zZ qv)) zu))) a A).nox) (zG (TR "NoNumber" (zi (qa (.str "this is no place in the list of all weights")) zu)) zX) zX) zX
abbrev ek (T a b c:W)(n:Nat)(x:Option W):En:=[some T,some a,some b,some c,rO n,x,none,none,none,none,none,none,none]
def AW (h:Cw w)(H:A[n4]? =some (.lst rs)):CB (ek T a b c n4 (some w)) A=if yn rs.length w then .ok (.nx (ek T a b c n4 (some w))) A else .exc "NoNumber" A:=by
 have E:mQ qe (zZ qv) (ek T a b c n4 (some w)) A=.ok (.int (rs.length:Int)) A:=by refine(jF (yr (zh rfl) (by unfold zK;dsimp only;rw[H]))).trans rfl
 have e:=kP ((zR (zr (zh (i:=5) (ρ:=ek T a b c n4 (some w)) rfl) (zr E zJ))).trans (ny h rs.length A));cases hi:yn rs.length w with
 |true=>
  rw[hi]at e;exact(zy ((jX (Z9 e)).trans qx)).trans qx
 |false=>
  rw[hi]at e;exact gu ((kh (Z9 e)).trans (gu rfl))
def Mm (e:Cw a)(d:Cw b)(H:Cw c)(g:A[n4]? =some (.lst rs)):
  jA (qF (qB (zi zF (zi qc (zi qi zu))))) (zN 5) CB (ek T a b c n4 none) A=if yn rs.length a&&(yn rs.length b&&yn rs.length c) then .ok (.nx (ek T a b c n4 (some c))) A else .exc "NoNumber" A:=by
 have E:qF (qB (zi zF (zi qc (zi qi zu)))) (ek T a b c n4 none) A=.ok ⟨λA i=>(zK (.tup [a,b,c]) A).map λj=>j[i]?,3⟩ A:=rfl;refine(jo E).trans ?_;show jS _ _ 3 0 _ _=_;have s:∀{w y5},Cw w->Mi.turn (zN 5) CB w (ek T a b c n4 y5) A=if yn rs.length w then .ok (.nx (ek T a b c n4 (some w))) A else .exc "NoNumber" A:=λh=>(jB rfl).trans (AW h g);cases h1:yn rs.length a with
 |false=>exact Uk rfl ((s e).trans (by rw[h1];rfl))|true=>
  rw[Jh (w:=a) rfl ((s e).trans (by rw[h1];rfl))]
  cases h2:yn rs.length b with
  |false=>exact Uk rfl ((s d).trans (by rw[h2];rfl))|true=>
   rw[Jh (w:=b) rfl ((s d).trans (by rw[h2];rfl))]
   cases f:yn rs.length c with
   |false=>exact Uk rfl ((s H).trans (by rw[f];rfl))|true=>
    rw[Jh (w:=c) rfl ((s H).trans (by rw[f];rfl))]
    exact Gr rfl
end
section
variable {K n4 n6 j k:Nat}{z x y v:bN}{w:W}{T a b c:W}
def AO {m:Ev}{p q:Int}(h:ρ[i]? =some (iV p))(H:m ρ A=.ok (.int q) A1):Wx i m ρ A=.ok (.nx (ρ.set i (iV (p+q)))) A1:=by unfold Wx;rw[h];dsimp only;rw[H,zI]
def nz {N:Nat}(H:A[n]? =some (.lst ws))(h:ws[i]? =some w):(yi (.ref n) N).at_ A i=some (some (.tup [.int i,w])):=by
 have e:zK (.ref n) A=some ws:=by unfold zK;dsimp only;rw[H]
 unfold yi;dsimp only;rw[e];dsimp only;unfold atEnd;rw[h]
def Aa {N:Nat}(h:A[n]? =some (.lst ws)):(yi (.ref n) N).at_ A ws.length=some none:=by
 have e:zK (.ref n) A=some ws:=by unfold zK;dsimp only;rw[h]
 unfold yi;dsimp only;rw[e];dsimp only;unfold atEnd;rw[az (ao _)];simp
abbrev wt (T a b c:W)(n:Nat)(g:Option W)(n6:Nat)(p:Option W)(f e d X x:Option W):En:=[some T,some a,some b,some c,rO n,g,rO n6,p,f,e,d,X,x]
def nA (d:Zs K z)(o:K<=8)(f:A[n6]? =some (.lst (z.map W.int))):∃y8,jA (qF yB) (zN 8) (zG (qu 7 (zj qd yR kK)) zX) (wt T a b c n4 x5 n6 (iV 1) none none none none none) A=.ok (.nx (wt T a b c n4 x5 n6 (iV (pz z K)) y8 none none none none)) A:=by
 have E:qF yB (wt T a b c n4 x5 n6 (iV 1) none none none none none) A=.ok ⟨λA i=>(zK (.ref n6) A).map λw=>w[i]?,K⟩ A:=by
  have e:zK (.ref n6) A=some (z.map W.int):=by unfold zK;dsimp only;rw[f]
  unfold qF;rw[show yB (wt T a b c n4 x5 n6 (iV 1) none none none none none) A=.ok (.ref n6) A from rfl,zI]
  unfold YM;rw[e];dsimp only;rw[ag,d.l]
 have Z:=d.l;obtain⟨g,B,e,h,y8,rfl⟩:=ye (j:=⟨λA i=>(zK (.ref n6) A).map λw=>w[i]?,K⟩) (st:=Mi.turn (zN 8) (zG (qu 7 (zj qd yR kK)) zX)) (N:=K) (I:=λk q B=>B=A/\∃y8,q=wt T a b c n4 x5 n6 (iV (pz z k)) y8 none none none none)
  (λk q B n ⟨h,y8,H⟩=>by
   subst h H;have p:=YS d k (by lia)
   have P:=JS (k:=k) (by lia)
   exact⟨.int (z.getD k 0),_,_,(YF f).trans (by rw[int_at (by lia)]),(jB (ρ1:=wt T a b c n4 x5 n6 (iV (pz z k)) (iV (z.getD k 0)) none none none none) rfl).trans ((zy (qg ((zA (zh rfl) (zh rfl)).trans jt))).trans qx),rfl,_,rfl⟩)
  (λq B ⟨h,_⟩=>by subst h;exact(YF f).trans (by rw[az (by rw[ag];lia)]))
  K 0 _ A (by lia) ⟨rfl,none,rfl⟩
 subst h;exact⟨y8,(jo E).trans e⟩
noncomputable def uu (x y v:bN)(k:Nat):Int:=x.getD k 0 * y.getD k 0 * v.getD k 0
def SD (b:∀e∈x,-9<e/\e<9)(H:∀e∈y,-9<e/\e<9)(c:∀e∈v,-9<e/\e<9)(k:Nat):(-64<=x.getD k 0 * y.getD k 0/\x.getD k 0 * y.getD k 0<=64)/\-512<=uu x y v k/\uu x y v k<=512:=by
 have g:∀{l:bN},(∀e∈l,-9<e/\e<9)->-8<=l.getD k 0/\l.getD k 0<=8:=λ {l} h=>by
  by_cases q:k<l.length
  ·have:=h _ (getD_mem q)
   lia
  ·rw[aa,az (by lia)]
   decide
 have a:∀{p q M:Int},-M<=p/\p<=M->-8<=q/\q<=8->0<=M->-(M * 8)<=p * q/\p * q<=M * 8:=λ {p q M} h1 h2 d=>by
  have e:=Int.natAbs_mul p q
  have:=Nat.mul_le_mul (show p.natAbs<=M.toNat by lia) (show q.natAbs<=8 by lia)
  lia
 have h1:=a (M:=8) (g b) (g H) (by decide)
 have h2:=a (M:=64) (p:=x.getD k 0 * y.getD k 0) (by lia) (g c) (by decide)
 unfold uu;lia
end
section
variable {K n4 n6 j k l:Nat}{z x y v:bN}{rs:bM}{T:W}
def Mr {p:Int}(h:p.natAbs<2 ^ 64):YI (.int p) (.int 2) A=.ok (.int (p ^ 2)) A:=by
 have H:JL p 2=true:=by
  unfold JL;rw[ax h]
  rfl
 show(if JL p 2 then R.ok (W.int (p ^ 2)) A else .bad)=_;rw[ai H]
abbrev rx (p:Nat):Ev:=zj zD (zj zD qv (zM p)) JB
abbrev TB:Ex:=zG (qu 11 (zj qd (zj qd (rx 1) (rx 2)) (rx 3))) (zG (Wx 9 (zj qd JJ (zj YI (zj Wg yR kK) Q2))) zX)
def nC (d:Zs K z)(D:K<=8)(E:A[n4]? =some (.lst (rs.map zq)))(f:A[n6]? =some (.lst (z.map W.int)))(t:rs[i]? =some x)(p:rs[j]? =some y)(u:rs[l]? =some v)
  (lx:x.length=K)(ly:y.length=K)(lv:v.length=K)(n:∀e∈x,-9<e/\e<9)(M:∀e∈y,-9<e/\e<9)(bv:∀e∈v,-9<e/\e<9){y8:Option W}:
  ∃b a Z,jA (Zo yB) (jD 10 8) TB (wt T (.int (i:Int)) (.int (j:Int)) (.int (l:Int)) n4 x5 n6 (iV (pz z K)) y8 (iV 0) none none none) A=.ok (.nx (wt T (.int (i:Int)) (.int (j:Int)) (.int (l:Int)) n4 x5 n6 (iV (pz z K)) b (iV (tp (pz z K) z (uu x y v) K)) a Z none)) A:=by
 have g:=d.l;have pb:=YS d K (ao _);have p8:=JS D;have L:zK (.ref n6) A=some (z.map W.int):=by unfold zK;dsimp only;rw[f]
 have J:Zo yB (wt T (.int (i:Int)) (.int (j:Int)) (.int (l:Int)) n4 x5 n6 (iV (pz z K)) y8 (iV 0) none none none) A=.ok (yi (.ref n6) K) A:=by
  unfold Zo;rw[show yB (wt T (.int (i:Int)) (.int (j:Int)) (.int (l:Int)) n4 x5 n6 (iV (pz z K)) y8 (iV 0) none none none) A=.ok (.ref n6) A from rfl,zI]
  rw[L];dsimp only;rw[ag,g]
 have rw_:∀{q:Nat}{r:bN},rs[q]? =some r->zD (.ref n4) (.int (q:Int)) A=.ok (zq r) A:=λ {q r} h=>wa E (by rw[av,h];rfl)
 obtain⟨o,B,e,H,b,a,Z,rfl⟩:=ye (j:=yi (.ref n6) K) (st:=Mi.turn (jD 10 8) TB) (N:=K) (I:=λk ρ B=>B=A/\∃y8 a Z,ρ=wt T (.int (i:Int)) (.int (j:Int)) (.int (l:Int)) n4 x5 n6 (iV (pz z K)) y8 (iV (tp (pz z K) z (uu x y v) k)) a Z none)
  (λk ρ B C ⟨H,y8,a,Z,c⟩=>by
   subst H c;have P:=d.le C;have U:=SD n M bv k;have S:0<=pz z K/z.getD k 0:=ediv_nonneg (by lia) (by lia)
   have Q:pz z K/z.getD k 0<=pz z K:=Int.ediv_le_self _ (by lia)
   have s1:∀Y,rx 1 (wt T (.int (i:Int)) (.int (j:Int)) (.int (l:Int)) n4 x5 n6 (iV (pz z K)) (iV (z.getD k 0)) (iV (tp (pz z K) z (uu x y v) k)) (iO k) Y none) B=.ok (.int (x.getD k 0)) B:=λY=>(zA ((zA (zh rfl) (zh rfl)).trans (rw_ t)) (zh rfl)).trans kQ;have s2:∀Y,rx 2 (wt T (.int (i:Int)) (.int (j:Int)) (.int (l:Int)) n4 x5 n6 (iV (pz z K)) (iV (z.getD k 0)) (iV (tp (pz z K) z (uu x y v) k)) (iO k) Y none) B=.ok (.int (y.getD k 0)) B:=λY=>(zA ((zA (zh rfl) (zh rfl)).trans (rw_ p)) (zh rfl)).trans kQ;have s3:∀Y,rx 3 (wt T (.int (i:Int)) (.int (j:Int)) (.int (l:Int)) n4 x5 n6 (iV (pz z K)) (iV (z.getD k 0)) (iV (tp (pz z K) z (uu x y v) k)) (iO k) Y none) B=.ok (.int (v.getD k 0)) B:=λY=>(zA ((zA (zh rfl) (zh rfl)).trans (rw_ u)) (zh rfl)).trans kQ;have X:-9<x.getD k 0/\x.getD k 0<9:=n _ (getD_mem (by lia))
   refine⟨.tup [.int k,.int (z.getD k 0)],_,_,nz f (int_at (by lia)),(jB (ρ1:=wt T (.int (i:Int)) (.int (j:Int)) (.int (l:Int)) n4 x5 n6 (iV (pz z K)) (iV (z.getD k 0)) (iV (tp (pz z K) z (uu x y v) k)) (iO k) Z none) rfl).trans ((zy (qg (w:=.int (uu x y v k)) ((zA ((zA (s1 _) (s2 _)).trans jt) (s3 _)).trans jt))).trans ((zy (AO (q:=uu x y v k * (pz z K/z.getD k 0) ^ 2) rfl ((zA (zh rfl) ((zA ((zA (zh rfl) (zh rfl)).trans (Qd (by lia) (by lia))) zP).trans (Mr (by lia)))).trans jt))).trans qx)),rfl,_,_,_,rfl⟩)
  (λρ B ⟨H,_⟩=>by
   subst H
   have:=Aa (N:=K) f
   rwa[ag,g]at this)
  K 0 _ A (by lia) ⟨rfl,y8,none,none,rfl⟩
 subst H;exact⟨b,a,Z,(jo J).trans e⟩
end
section
variable {K j l:Nat}{x y v:bN}{w a b c:W}{s:Str}
def Q5 (t:bM)(K:Nat)(x y v:bN):W:=Y1 (k9 t.length K (qz t K) x * k9 t.length K (qz t K) y * tp (pz (qz t K) K) (qz t K) (uu x y v) K) ((t.length:Int) * pz (qz t K) K ^ 2)
def Mf (h:Tb t K):0<(t.length:Int) * pz (qz t K) K ^ 2/\(t.length:Int) * pz (qz t K) K ^ 2<1152921504606846976:=by
 have n:=h.d.tab.n8;have N:=h.d.tab.n1;have P:=YS h.d.zs K (ao _);have b:=JS h.d.k8;generalize pz (qz t K) K=p at*;have e:p ^ 2=p * p:=by grind
 have Q:=mul_pos P.1 P.1;have q:p * p<=16777216 * 16777216:=Int.mul_le_mul (by lia) (by lia) (by lia) (by decide)
 rw[e];generalize p * p=r at*;have a:(t.length:Int) * r<=8 * (16777216 * 16777216):=Int.mul_le_mul (by lia) q (by lia) (by decide)
 exact⟨mul_pos (by lia) Q,by lia⟩
def TK {K:Nat}(h:i<K):yn K (.int (i:Int))=true:=by
 show(true&&(decide ((0:Int)<=i)&&decide ((i:Int)<K)))=true;rw[ax (show(0:Int)<=i by lia),ax (show(i:Int)<K by lia)]
 rfl
def cw_int (i:Int):Cw (.int i):=⟨rfl,.int,λ_=>rfl⟩
def N9 (h:Tb t K)(H:(Rw t K).length=K)(A:Hx):∃n4 A2,Ext A A2/\A2[n4]? =some (.lst ((Rw t K).map zq))/\∀(m:Ex)(x:Option W),zG (wz (zU JY (zi zH zu))) (zG (qu 4 (λρ A=>((zU WS (zi zH zu)) ρ A).nox)) m) [some (zo t),some a,some b,some c,none,none,none,none,none,none,none,none,none] A=m (ek (zo t) a b c n4 none) A2:=by refine⟨_,_,Ext.trans (Ext.one (o:=.lst ((Rw t K).map zq))) (Ext.one (o:=.lst ((Rw t K).map zq))),qH,λm x=>?_⟩;exact(zy (Zm ((zR (zr (zh rfl) zJ)).trans (rw_T h H A)))).trans (zy (qg (Z9 ((zR (zr (zh rfl) zJ)).trans (Ow h.d _)))))
def nE (h:Tb t K)(hw:(Rw t K).length=K)(n:(Rw t K)[i]? =some x)(g:(Rw t K)[j]? =some y)(p:(Rw t K)[l]? =some v)(A:Hx):∃B,kz [zo t,.int i,.int j,.int l] A=.ok (Q5 t K x y v) B/\Ext A B:=by
 have d:=h.d;have f:=(Zn d.tab h.s d.kd).mp (aV n);have w:=(Zn d.tab h.s d.kd).mp (aV g);have wv:=(Zn d.tab h.s d.kd).mp (aV p);have ii:i<K:=by rw[<- hw];exact(cj.mp n).1
 have M:j<K:=by rw[<- hw];exact(cj.mp g).1
 have L:l<K:=by rw[<- hw];exact(cj.mp p).1
 obtain⟨n4,Y,x2,D,top⟩:=N9 (a:=.int i) (b:=.int j) (c:=.int l) h hw A;have E:=Mm (T:=zo t) (cw_int i) (cw_int j) (cw_int l) D;rw[ag,hw,TK ii,TK M,TK L]at E;have H:(Y++[O.lst ((qz t K).map W.int)])[n4]? =some (.lst ((Rw t K).map zq)):=jq D;have C:(Y++[O.lst ((qz t K).map W.int)])[Y.length]? =some (.lst ((qz t K).map W.int)):=qH;obtain⟨y8,P⟩:=nA (T:=zo t) (a:=.int i) (b:=.int j) (c:=.int l) (n4:=n4) (x5:=some (.int l)) d.zs d.k8 C;obtain⟨Q,J,Z,N⟩:=nC (T:=zo t) (x5:=some (.int l)) (y8:=y8) d.zs d.k8 H C n g p f.l w.l wv.l (f.sm d.zs) (w.sm d.zs) (wv.sm d.zs);have z:=K4 d f;have o:=K4 d w;have I:=Mf h;have n8:=d.tab.n8;have S:=YS d.zs K (ao _);have U:=JS d.k8;have X:0<=k9 t.length K (qz t K) x * k9 t.length K (qz t K) y/\k9 t.length K (qz t K) x * k9 t.length K (qz t K) y<=134217728 * 134217728:=⟨bB z.2.1 o.2.1,Int.mul_le_mul z.2.2 o.2.2 o.2.1 (by decide)⟩
 refine⟨Y++[O.lst ((qz t K).map W.int)],Nh ?_,x2.trans .one⟩;dsimp only[Y8];refine(top _ none).trans ((zy E).trans (Z9 ?_));generalize u:Y++[O.lst ((qz t K).map W.int)]=e at*;have rw_:∀{q:Nat}{r:bN},(Rw t K)[q]? =some r->zD (.ref n4) (.int (q:Int)) e=.ok (zq r) e:=λ {q r} h=>wa H (by rw[av,h];rfl)
 refine(zy (ρ1:=wt (zo t) (.int i) (.int j) (.int l) n4 (some (.int l)) Y.length none none none none none none) (A1:=e) ((qg ((zR (zr (zh rfl) zJ)).trans ((d.zf Y).trans (by rw[u])))).trans rfl)).trans ?_
 refine(zy ((qg zP).trans rfl)).trans ((zy P).trans ((zy ((qg zP).trans rfl)).trans ((zy N).trans ?_)));refine(zy ((qg ((zA ((zR (zr (zh rfl) (zr ((zA (zh rfl) (zh rfl)).trans (rw_ n)) zJ))).trans (G4 d f e).1) ((zR (zr (zh rfl) (zr ((zA (zh rfl) (zh rfl)).trans (rw_ g)) zJ))).trans (G4 d w e).1)).trans jt)).trans rfl)).trans ?_;exact qp (qI ((zR (zr ((zA (zh rfl) (zh rfl)).trans jt) (zr ((zA (len_tab (t:=t) rfl) ((zA (zh rfl) zP).trans (Mr (by lia)))).trans jt) zJ))).trans (nk I.1 I.2 e)))
def nF (h:Tb t K)(w:(Rw t K).length=K)(f:Cw a)(d:Cw b)(H:Cw c)(n:(yn K a&&(yn K b&&yn K c))=false)(A:Hx):∃B,kz [zo t,a,b,c] A=.exc "NoNumber" B/\Ext A B:=by obtain⟨N,i,x,g,top⟩:=N9 (a:=a) (b:=b) (c:=c) h w A;have e:=Mm (T:=zo t) f d H g;rw[ag,w,n]at e;refine⟨i,QJ ?_,x⟩;dsimp only[Y8];exact(top _ none).trans (gu e)
def Lq (h:JY [w] A=.exc s A1):kz [w,a,b,c] A=.exc s A1:=by refine QJ ?_;dsimp only[Y8];exact gu (U3 ((zR (zr (zh rfl) zJ)).trans h))
end
def two_N {j:Nat}(h:j6 (.ref j) A=some .lst):Q3 A (.tup [.tup [.int 0,.int 1],.ref j]):=λB k=>by
 unfold gq Gm;refine qP ?_;dsimp only[Ki,mq];have H:=k _ _ h;have e:Kh [.ref j,.int 2] B=.ok (.bl false) B:=by unfold Kh V9;refine qP ?_;dsimp only[Gd,mq];exact qp (qI (Ys ((QX (zh rfl) H).trans rfl)))
 have b:QB [.ref j,.int 2,.int 2] B=.ok (.bl false) B:=by unfold QB Vx;refine qP ?_;dsimp only[WQ,mq];exact qp (qI (Ys ((zR (ws:=[.ref j,.int 2]) (A1:=B) rfl).trans e)))
 have a:QB [.tup [.int 0,.int 1],.int 2,.int 2] B=.ok (.bl true) B:=by kernel_rfl
 have E:=Km (cap:=[1]) (A:=B) (ρ:=[some (.tup [.tup [.int 0,.int 1],.ref j]),iV 2]) (ws:=[.tup [.int 0,.int 1],.ref j]) (me:=zU QB (zi zH (zi zF (zi zF zu)))) (g:=λw=>match w with|.tup _=>.bl true|_=>.bl false) (zh (i:=0) rfl) (by simp[zT]) (λw c=>by
  rcases cm.mp c with rfl|c
  ·exact(zR (A1:=B) rfl).trans a
  ·rw[cw.mp c]
   exact(zR (ws:=[.ref j,.int 2,.int 2]) (A1:=B) rfl).trans b)
 refine(zy (ρ1:=[some (.tup [.tup [.int 0,.int 1],.ref j]),none]) (A1:=B) rfl).trans ((zy (ρ1:=[some (.tup [.tup [.int 0,.int 1],.ref j]),iV 2]) (A1:=B) rfl).trans ?_);exact qp ((kh (kP (k:=false) ((jF E).trans rfl))).trans (qp (qI zP)))
noncomputable def YY (f:Fn)(u:List W)(l:List W):Option (List W):=match f (.ref 0::u) [.lst l] with
 |.ok _ A=>(match (List.head? A:Option O) with|some (.lst l2)=>some l2|_=>none)
 |_=>none
set_option tactic.hygienic true in
def Us {f:Fn}{us:List W}{l:List W}{v:W}(a:A[n]? =some (.lst l))(h:kI f (.ref n::us) A=.ok v B):∃L,YY f us l=some L/\B=A.set n (.lst L)/\qN L=true:=by
 unfold kI at h;dsimp only at h;rw[a]at h;dsimp only at h
 split at h
 ·unfold YY
  split at h
  ·rename_i w c e
   try(rw[e];dsimp only)
   split at h
   ·rename_i b E
    split at h
    ·rename_i H
     rw[ak]at H;cases h;exact⟨b,by first|rw[E]|rfl,rfl,H.1⟩
    ·cases h
   ·cases h
  ·cases h
 ·cases h
section
variable {k:Nat}{q:Hx->W->Prop}{l:List W}
def BY {r:Nat}{b:Hx}{m:Int}{mm:Ev}(s:qY n A)(a:A[n]? =some (.lst l))(t:TL q A r k B)(x:me ρ b=.ok (.ref r) B)(u:ρ[0]? =some (rO n))(p:∀A,mm ρ A=.ok (.int m) A)(g:(k:Int)=m)(y:0<m)(I:m<1000):∃w C,zj zD me (zU yx (zi zH (zi mm zu))) ρ b=.ok w C/\Qk q C w/\Kn n A C/\∃L,YY QF [.int m] l=some L/\C[n]? =some (.lst L):=by
 obtain⟨o,e,d,v⟩:=t.at_;have sB:=s.ext t.ext;obtain⟨j,C,E,i,K,_⟩:=AD sB u (p B) y (by lia)
 have h:j<o.length:=by lia
 have H:r≠n:=by have:=s.lt;have:=t.nw;lia
 have c:=(zR (f:=yx) (zr (zh u) (zr (p B) zJ))).symm.trans E;obtain⟨L,D,z,_⟩:=Us (f:=QF) (us:=[.int m]) (t.ext.at a) c;refine⟨o[j],C,(zA x E).trans (wa (K.kp.get e H) (ae h)),(v _ (aL h)).mono (K.ky sB),(Kn.ext s t.ext).trans K,L,D,?_⟩;rw[z];exact aw sB.lt
end
def MZ {l:List W}(s:qY n A)(h:A[n]? =some (.lst l)):∃w B,Q8 [.ref n] A=.ok w B/\Q3 B w/\Kn n A B/\∃L,YY QF [.int 15] l=some L/\B[n]? =some (.lst L):=by
 unfold Q8 RD;dsimp only[VF,mq];have E:∀j,ET (λB w=>gq [w] B=.ok (.bl false) B) A (qL (zi (qB (zi qD (zi jv zu))) (zi (qB (zi jv (zi qD zu))) zu))) j:=λj A _=>⟨_,_,jI (zr (wF (zr zP (zr zP zJ))) (zr (wF (zr zP (zr zP zJ))) zJ)),Ext.one,M6 NQ (by decide)⟩
 have e:∀j,ET (λB w=>gq [w] B=.ok (.bl false) B) A (qB (zi (qB (zi qD (zi jv zu))) (zi (qL (zi jv (zi qD zu))) zu))) j:=λj A _=>⟨_,_,wF (zr (wF (zr zP (zr zP zJ))) (zr (jI (zr zP (zr zP zJ))) zJ)),Ext.one,two_N NQ⟩;obtain⟨a,g,d,T⟩:=kv (k:=8) (ρ:=[rO n,none]) (wC (gW (m:=WD) (λ_=>rfl)) (wC (gW (m:=qD) (λ_=>rfl)) (wC (gW (m:=qB zu) (w:=.tup []) (λ_=>rfl)) (wC (gW (m:=qB (zi (qB (zi jv zu)) zu)) (w:=.tup [.tup [.int 1]]) (λ_=>rfl)) (wC (gW (m:=qB (zi (qB (zi qD (zi jv zu))) (zi (qB (zi jv (zi qD zu))) (zi (qB (zi qD (zi qD zu))) zu)))) (w:=.tup [.tup [.int 0,.int 1],.tup [.int 1,.int 0],.tup [.int 0,.int 0]]) (λ_=>rfl))
  (wC (gW (m:=qB (zi (qB (zi qD (zi Q2 zu))) (zi (qB (zi Q2 (zi qD zu))) zu))) (w:=.tup [.tup [.int 0,.int 2],.tup [.int 2,.int 0]]) (λ_=>rfl)) (wC (gW (m:=qB (zi (qB (zi qD (zi jv zu))) (zi (qB (zi Q2 (zi qD zu))) zu))) (w:=.tup [.tup [.int 0,.int 1],.tup [.int 2,.int 0]]) (λ_=>rfl)) (wC (E _) NH))))))))
 obtain⟨r,f,c,t⟩:=k4 (k:=7) (i:=1) (ρ:=[rO n,rO a]) T (wC (gW (m:=qB (zi (qB (zi qD (zi qD zu))) (zi (qB (zi qD (zi qD zu))) zu))) (w:=.tup [.tup [.int 0,.int 0],.tup [.int 0,.int 0]]) (λ_=>rfl)) (wC (gW (m:=qB (zi (qB (zi qD (zi q9 zu))) (zi (qB (zi q9 (zi qD zu))) zu))) (w:=.tup [.tup [.int 0,.bl true],.tup [.bl true,.int 0]]) (λ_=>rfl)) (wC (e _)
  (wC (gW (m:=qB (zi (qB (zi qD (zi jv zu))) zu)) (w:=.tup [.tup [.int 0,.int 1]]) (λ_=>rfl)) (wC (gW (m:=qa (.str "01/10")) (λ_=>rfl)) (wC kr (wC (gW (m:=zj Jw (qB (zi (zj Jw (qB (zi qD zu)) LN) zu)) LN) (w:=.tup (List.replicate 9 (.tup (List.replicate 9 (.int 0))))) (λ_=>rfl)) NH))))))) rfl (by lia)
 obtain⟨w,C,b,H,K,L,p,o⟩:=BY (me:=zF) (ρ:=[rO n,rO r]) (mm:=qa (.int 15)) (m:=15) s h t (zh rfl) rfl (λ_=>rfl) rfl (by decide) (by decide)
 refine⟨w,C,qP ?_,H,K,L,p,o⟩;exact(zy ((qg d).trans rfl)).trans ((zy ((qg c).trans rfl)).trans (qp (qI b)))
noncomputable def JQ (m a b:Nat):bM:=(List.range m).map λi=>(List.range m).map λj=>if i=j then 0 else if (i=a/\j=b)∨(i=b/\j=a) then 2 else 1
def gh:List (Nat×Nat×Nat):=[4,5,6,7,8].flatMap λm=>(List.range m).flatMap λa=>(List.range (m-1)).map λx=>(m,a,x)
noncomputable abbrev Zg (q:Nat×Nat×Nat):Nat:=(q.2.1+1+q.2.2)%q.1
def Ra:R W->Bool
 |.ok (.tup ws) _=>qN ws|_=>false
set_option tactic.hygienic true in
def nG {f:Fn}{u:List W}(H:qN u=true)(h:Ra (f u [])=true):∃ws,∀A,iso f u A=.ok (.tup ws) A:=by
 unfold Ra at h
 split at h
 ·rename_i ws B e
  exact⟨ws,λA=>wH H h e⟩
 ·cases h
def g8 (q:Nat×Nat×Nat):Bool:=XS (JQ q.1 q.2.1 (Zg q))&&Ra (RL [zo (JQ q.1 q.2.1 (Zg q))] [])
def nI:((dq 16 0 gh).take 16).all g8=true:=by decide +kernel
def nJ:((dq 16 1 gh).take 16).all g8=true:=by decide +kernel
def nK:((dq 16 2 gh).take 16).all g8=true:=by decide +kernel
def nL:((dq 16 3 gh).take 16).all g8=true:=by decide +kernel
def nM:((dq 16 4 gh).take 16).all g8=true:=by decide +kernel
def nN:((dq 16 5 gh).take 16).all g8=true:=by decide +kernel
def nO:((dq 16 6 gh).take 16).all g8=true:=by decide +kernel
def nP:((dq 16 7 gh).take 16).all g8=true:=by decide +kernel
def nQ:((dq 16 8 gh).take 16).all g8=true:=by decide +kernel
def nR:((dq 16 9 gh).take 16).all g8=true:=by decide +kernel
def nS:gh.all g8=true:=wN (n:=16) (k:=0) nI (wN nJ (wN nK (wN nL (wN nM (wN nN (wN nO (wN nP (wN nQ (wN nR rfl)))))))))
def Rg:Ex:=zG (Yq gD Q2 (zj zD qc qi) qv) (zG (Yq gD Q2 (zj zD qc qv) qi) (zG (gH (mQ Zp (qy 1 [] (qF qc) (zN 0) q9 (ql (mQ Zp (zZ zH)))))) zX))
def ZV (m:Nat)(o:O):Hx:=[o]++((gK m).map λr=>O.lst (r.map W.int))++[O.lst ((List.range (gK m).length).map λi=>W.ref ([o].length+i))]
def Rl (a:W):R Fl->Option O
 |.ok (.rt w) (o::_)=>if w.beq a then some o else none|_=>none
def nU (o:O):gh.map (λq=>Rl (zo (JQ q.1 q.2.1 (Zg q))) (Rg [rO 0,iV q.1,rO (q.1+1),iV q.2.1,iV (Zg q:Int)] (ZV q.1 o)))=List.replicate 160 (some o):=by kernel_rfl
def nV:(([4,5,6,7,8]:bS).all λ(m:Nat)=>Rj (R0 [.int m] []) (gK m))=true:=by kernel_rfl
def U5 (m:Nat):(gK m).length=m:=GD
set_option tactic.hygienic true in
def nW {q:Nat×Nat×Nat}(a:q∈gh)(o:O):∃l,Rg [rO 0,iV q.1,rO (q.1+1),iV q.2.1,iV (Zg q:Int)] (ZV q.1 o)=.ok (.rt (zo (JQ q.1 q.2.1 (Zg q)))) (o::l):=by
 have h:=List.mem_map_of_mem (f:=λq=>Rl (zo (JQ q.1 q.2.1 (Zg q))) (Rg [rO 0,iV q.1,rO (q.1+1),iV q.2.1,iV (Zg q:Int)] (ZV q.1 o))) a;rw[nU o]at h;have e:=List.eq_of_mem_replicate h;unfold Rl at e
 split at e
 ·rename_i w c l b
  by_cases H:w.beq (zo (JQ q.1 q.2.1 (Zg q)))=true
  ·rw[ai H]at e
   cases e;rw[W.eq_of H]at b;exact⟨l,b⟩
  ·rw[aj H]at e;cases e
 ·cases e
section
def M8 (s:qY n A):∃t o,J5 [.ref n] A=.ok (zo t) (A.set n o)/\qY n (A.set n o)/\qj t/\∃ws,∀B,Kc [zo t] B=.ok (.tup ws) B:=by
 obtain⟨x,b,D,L,P⟩:=s;have hm:=jU D;obtain⟨r,u,e1,J,rl,s1⟩:=Yv (n:=0) (A:=[.lst [.int x,.bl b]]) ⟨x,b,rfl,L,P⟩ (m:=5) (by decide) (by decide)
 obtain⟨d,rfl⟩:=a5 J;have hd:d<5:=by lia
 have M:4+d∈[4,5,6,7,8]:=by
  have c:d=0∨d=1∨d=2∨d=3∨d=4:=by lia
  rcases c with rfl|rfl|rfl|rfl|rfl<;>decide
 generalize H:4+d=m at M;have X:∀B,Ke [.int m] B=.ok (zo (gK m)) B:=λB=>wG rfl (cu.mp nV m M) B;have s2:qY 0 (ZV m u):=by obtain⟨y,z,p,q⟩:=s1;exact⟨y,z,p,q⟩
 obtain⟨r2,v,Z,j,I,s3⟩:=Yv s2 (m:=(m:Int)) (by lia) (by lia)
 obtain⟨a,rfl⟩:=a5 j;have g:qY 0 (ZV m v):=s3;obtain⟨r3,e,Y,h,E,s4⟩:=Yv g (m:=(m:Int)-1) (by lia) (by lia)
 obtain⟨y,rfl⟩:=a5 h;have S:qY 0 (ZV m e):=s4;have w:(m,a,y)∈gh:=List.mem_flatMap.mpr ⟨m,M,List.mem_flatMap.mpr ⟨a,cf.mpr (by lia),cn.mpr ⟨y,cf.mpr (by lia),rfl⟩⟩⟩
 obtain⟨l,U⟩:=nW w e;have ht:=cu.mp nS _ w;unfold g8 at ht;rw[ak]at ht;obtain⟨h1,T⟩:=ht;have hT:=O1 h1;obtain⟨C,f,p,q,K⟩:=S;have Q:e=.lst [.int C,.bl f]:=by
  have:some e=some (O.lst [.int C,.bl f]):=p
  injection this
 refine⟨JQ m a (Zg (m,a,y)),.lst [.int C,.bl f],?_,⟨C,f,aw hm,q,K⟩,hT,?_⟩
 ·refine GS (us:=[]) (A1:=e::l) D rfl ?_ (by rw[Q];rfl) (ZK _)
  refine qP ?_;dsimp only[V1,mq];refine(zy (ρ1:=[rO 0,iO m,none,none,none]) (A1:=[u]) ((qg ((zA zP ((zR (zr (zh rfl) (zr zP zJ))).trans e1)).trans rfl)).trans ?_)).trans ?_
  ·rw[<- H]
   rfl
  refine(zy (ρ1:=[rO 0,iO m,rO (m+1),none,none]) (A1:=ZV m u) ((qg (Ew (t:=gK m) (by rw[U5];lia) (λr N=>?_) ((zR (zr (zh rfl) zJ)).trans (X _)))).trans ?_)).trans ?_
  ·obtain⟨i,_,rfl⟩:=cn.mp N
   rw[U5];simp
  ·unfold ZV
   rw[U5,add_comm]
   rfl
  refine(zy (ρ1:=[rO 0,iO m,rO (m+1),iO a,none]) (A1:=ZV m v) ((qg ((zR (zr (zh rfl) (zr (zh rfl) zJ))).trans Z)).trans rfl)).trans ?_;refine(zy (ρ1:=[rO 0,iO m,rO (m+1),iO a,iV (Zg (m,a,y):Int)]) (A1:=ZV m e) ((qg ((zA ((zA ((zA (zh rfl) zP).trans rfl) ((zR (zr (zh rfl) (zr ((zA (zh rfl) zP).trans rfl) zJ))).trans Y)).trans rfl) (zh rfl)).trans (Qf (by lia)))).trans ?_)).trans ?_
  ·unfold Zg
   rw[Int.natCast_emod]
   rfl
  exact U
 ·exact nG (Zi _) T
variable {f:Fn}{us:List W}
def PQ (v:Int)(A:Hx):qm 2 (Z1 f) [.int v,.int v] A=.ok (.bl true) A:=by refine qP ?_;unfold Z1;refine(zy (ρ1:=[iV v,iV v]) (A1:=A) ((jX (A1:=A) rfl).trans rfl)).trans (qp (qI ?_));exact(QQ (A1:=A) ((zA (zh (i:=0) rfl) (zh (i:=1) rfl)).trans ((gL _ _ _).trans (by rw[ax rfl])))).trans rfl
def Df {x y:W}{ty:Ty}(H:zK x A=some ws)(h:zK y A=some ws)(T:j6 x A=some ty)(t:j6 y A=some ty)(q:ty=.tup∨ty=.lst)(l:ws.length<=1000)(o:∀w∈ws,f [w,w] A=.ok (.bl true) A):qm 2 (Z1 f) [x,y] A=.ok (.bl true) A:=by
 refine qP ?_;unfold Z1;have b:mQ qe (zZ (zM 0)) [some x,some y] A=.ok (.int ws.length) A:=jF (yr (w:=x) (A1:=A) (zh rfl) H);have E:mQ qe (zZ (zM 1)) [some x,some y] A=.ok (.int ws.length) A:=jF (yr (w:=y) (A1:=A) (zh rfl) h);have I:X6 .tup .lst (zM 1) [some x,some y] A=.ok (.bl true) A:=by unfold X6;rw[zh (w:=y) rfl,zI,t];rcases q with rfl|rfl<;>rfl
 have n:∀c,zj ju (w9 c (zM 0)) (w9 c (zM 1)) [some x,some y] A=.ok (.bl false) A:=λc=>(zA (QX (w:=x) (zh rfl) T) (QX (w:=y) (zh rfl) t)).trans ((L5 _ _ _).trans (by rw[bA];rfl))
 refine qp ((kh (A1:=A) I).trans ?_);refine(zy (ρ1:=[some x,some y]) (A1:=A) ((jX (A1:=A) ((K6 (A1:=A) (n .tup)).trans (n .lst))).trans qx)).trans ?_;refine(zy (ρ1:=[some x,some y]) (A1:=A) ((jX (A1:=A) ((zA b E).trans ((JU _ _ _).trans (by rw[ax rfl];rfl)))).trans qx)).trans (qp (qI ?_))
 have z:gC (zM 0) (zM 1) [some x,some y] A=.ok (wq x y ws.length) A:=by unfold gC;rw[zh (w:=x) rfl,zI,zh (w:=y) rfl,zI,H,h]
 have d:=Pg (A:=A) (cap:=[]) (ρ:=[some x,some y]) (me:=zU f (zi (zM 0) (zi (zM 1) zu))) (N:=ws.length) (u:=λi=>ws.getD i .non) (v:=λi=>ws.getD i .non) (g:=λ_=>.bl true) z rfl l
  (λi a=>by
   show(match zK x A,zK y A with|some U,some j=>some (zip2 U[i]? j[i]?)|_,_=>none)=_
   rw[H,h];show some (zip2 ws[i]? ws[i]?)=_;rw[aa,ae a];rfl)
  (by
   show(match zK x A,zK y A with|some U,some j=>some (zip2 U[ws.length]? j[ws.length]?)|_,_=>none)=_
   rw[H,h];show some (zip2 ws[ws.length]? ws[ws.length]?)=_;rw[az (ao _)];rfl)
  (λi a=>by
   have e:ws.getD i .non=ws[i]:=by rw[aa,ae a];rfl
   rw[e];exact(zR (ws:=[ws[i],ws[i]]) (A1:=A) rfl).trans (o _ (aL a)))
 exact(jF d).trans (Ku (p:=λ_=>true) λ_ _=>rfl)
variable {K r4 r5 j k l κ:Nat}{z x y v:bN}{rs:bM}{T:W}
abbrev fl (k n:Nat)(T:W)(a r:Nat)(p o l j i h g f e d c b X x:Option W):En:=[rO 0,iO k,rO n,some T,rO a,rO r,p,o,l,j,i,h,g,f,e,d,c,b,X,x]
abbrev ry (p:Nat):Ev:=zj zD (zj zD qv (zM p)) Qp
abbrev LS:Ex:=zG (qu 13 (zj qd (zj zD jw Qp) (zj zD jw Qp))) (zG (qu 14 (zj qd (ry 7) (ry 8))) (zG (qu 14 (zj qd XZ (ry 9))) (zG (qu 10 (zj qR (zj qd JB X7) (zj qd XZ JJ))) (zG (qu 11 (zj qd JJ X7)) zX))))
def nX (h:Zs K z)(f:K<=8)(b:∀e∈x,-9<e/\e<9)(a:∀e∈y,-9<e/\e<9)(c:∀e∈v,-9<e/\e<9)(H:k<=K):(-(2:Int) ^ 63<(gQ z (uu x y v) k).1/\(gQ z (uu x y v) k).1<(2:Int) ^ 63)/\0<(gQ z (uu x y v) k).2/\(gQ z (uu x y v) k).2<=281474976710656:=by
 rw[lt_eq h k H];have p:=YS h k H;have d:=JS (k:=k) (by lia)
 have tb:=LK (P:=pz z k) (u:=uu x y v) (by lia) (by lia) h (λm _=>(SD b a c m).2) k H
 have Q:=mul_pos p.1 p.1;have q:pz z k * pz z k<=16777216 * 16777216:=Int.mul_le_mul (by lia) (by lia) (by lia) (by decide)
 refine⟨⟨?_,?_⟩,Q,q⟩
 ·show -(2:Int) ^ 63<tp (pz z k) z (uu x y v) k
  lia
 ·show tp (pz z k) z (uu x y v) k<(2:Int) ^ 63
  lia
def nY (H:Zs K z)(X:K<=8)(h4:A[r4]? =some (.lst (rs.map zq)))(t:A[r5]? =some (.lst (z.map W.int)))(S:rs[i]? =some x)(Q:rs[j]? =some y)(U:rs[l]? =some v)
  (P:x.length=K)(M:y.length=K)(lv:v.length=K)(g:∀e∈x,-9<e/\e<9)(D:∀e∈y,-9<e/\e<9)(bv:∀e∈v,-9<e/\e<9){x6 x12 x13 x14 x15 x16 x17 x18 x19:Option W}:
  ∃c a Y,jA (jM (mQ qe (zZ jw))) (zN 12) LS (fl κ n T r4 r5 x6 (iO i) (iO j) (iO l) (iV 0) (iV 1) x12 x13 x14 x15 x16 x17 x18 x19) A=.ok (.nx (fl κ n T r4 r5 x6 (iO i) (iO j) (iO l) (iV (tp (pz z K) z (uu x y v) K)) (iV (pz z K * pz z K)) c a Y x15 x16 x17 x18 x19)) A:=by
 have L:=H.l;have rw_:∀{q:Nat}{r:bN},rs[q]? =some r->zD (.ref r4) (.int (q:Int)) A=.ok (zq r) A:=λ {q r} h=>wa h4 (by rw[av,h];rfl)
 have el:mQ qe (zZ jw) (fl κ n T r4 r5 x6 (iO i) (iO j) (iO l) (iV 0) (iV 1) x12 x13 x14 x15 x16 x17 x18 x19) A=.ok (.int (K:Int)) A:=by
  refine(jF (yr (zh rfl) (by unfold zK;dsimp only;rw[t]))).trans ?_
  unfold qe;rw[ag,L]
 have C:=yG el (Jb (by lia))
 rw[aB]at C;obtain⟨J,B,e,f,c,a,Y,rfl⟩:=ye (j:=jG 0 K) (st:=Mi.turn (zN 12) LS) (N:=K) (I:=λk ρ B=>B=A/\∃c a Y,ρ=fl κ n T r4 r5 x6 (iO i) (iO j) (iO l) (iV (gQ z (uu x y v) k).1) (iV (gQ z (uu x y v) k).2) c a Y x15 x16 x17 x18 x19)
  (λk ρ B o ⟨f,c,a,Y,d⟩=>by
   subst f d;have Z:=H.le o;have ub:=SD g D bv k;have b:=nX (x:=x) (y:=y) (v:=v) H X g D bv (k:=k) (by lia)
   have xb:-9<x.getD k 0/\x.getD k 0<9:=g _ (getD_mem (by lia))
   have u:∀{ρ:En},ρ[5]? =some (rO r5)->ρ[12]? =some (iO k)->zj zD jw Qp ρ B=.ok (.int (z.getD k 0)) B:=λg1 g2=>(zA (zh g1) (zh g2)).trans (wa t (int_at (by lia)))
   have E:∀{ρ:En}{p q:Nat}{r:bN},ρ[4]? =some (rO r4)->ρ[p]? =some (iO q)->ρ[12]? =some (iO k)->rs[q]? =some r->r.length=K->ry p ρ B=.ok (.int (r.getD k 0)) B:=λg1 g2 g3 g4 g5=>(zA ((zA (zh g1) (zh g2)).trans (rw_ g4)) (zh g3)).trans kQ;have zz:0<z.getD k 0 * z.getD k 0/\z.getD k 0 * z.getD k 0<=8 * 8:=⟨mul_pos (by lia) (by lia),Int.mul_le_mul Z.2 Z.2 (by lia) (by decide)⟩
   refine⟨.int (0+(k:Int)),_,_,j8 o,(jB (ρ1:=fl κ n T r4 r5 x6 (iO i) (iO j) (iO l) (iV (gQ z (uu x y v) k).1) (iV (gQ z (uu x y v) k).2) (iO k) a Y x15 x16 x17 x18 x19) (by show some _=some _;rw[Int.zero_add];rfl)).trans ?_,rfl,iO k,iV (z.getD k 0 * z.getD k 0),iV (uu x y v k),rfl⟩
   refine(zy ((qg ((zA (u rfl rfl) (u rfl rfl)).trans jt)).trans rfl)).trans ?_;refine(zy ((qg ((zA (E rfl rfl rfl S P) (E rfl rfl rfl Q M)).trans jt)).trans rfl)).trans ?_;refine(zy ((qg (w:=.int (uu x y v k)) ((zA (zh rfl) (E rfl rfl rfl U lv)).trans jt)).trans rfl)).trans ?_;refine(zy ((qg ((zA ((zA (zh rfl) (zh rfl)).trans jt) ((zA (zh rfl) (zh rfl)).trans jt)).trans rfl)).trans rfl)).trans ?_;exact(zy ((qg ((zA (zh rfl) (zh rfl)).trans jt)).trans rfl)).trans qx)
  (λρ B _=>j7 (by lia))
  K 0 (fl κ n T r4 r5 x6 (iO i) (iO j) (iO l) (iV 0) (iV 1) x12 x13 x14 x15 x16 x17 x18 x19) A (by lia) ⟨rfl,_,_,_,rfl⟩
 subst f;rw[lt_eq H K (ao _)]at e;exact⟨c,a,Y,(jo C).trans e⟩
end
section
variable {K r4 r5 j k l κ:Nat}{x y v:bN}
abbrev D3:Ev:=jN (qy 1 [2,4] (jM YU) (zN 0) q9 (ql (zU yx (zi zF (zi (mQ qe (zZ qc)) zu)))))
def nZ (s:qY n A)(M:ρ[2]? =some (rO n))(t:ρ[4]? =some (rO r4))(r:A[r4]? =some (.lst ws))(J:r4≠n)(x:0<ws.length)(o:ws.length<100):
  ∃(i j k:Nat) (B:Hx) (p:Nat),D3 ρ A=.ok (.ref p) B/\B[p]? =some (.lst [.int (i:Int),.int (j:Int),.int (k:Int)])/\i<ws.length/\j<ws.length/\k<ws.length/\Kn n A B:=by
 have L:=yG (m:=YU) (ρ:=ρ) (A:=A) (A1:=A) (k:=3) zP (by decide)
 have g:([2,4].map λi=>(ρ[i]?).join)=[rO n,rO r4]:=by
  simp only[aQ,map_nil,M,t]
  rfl
 obtain⟨d,z,B,e,_,⟨l,h,c,b⟩,D⟩:=Ya (nl:=1) (cap:=[2,4]) (tw:=zN 0) (ifs:=q9) (em:=ql (zU yx (zi zF (zi (mQ qe (zZ qc)) zu)))) (N:=3)
  (I:=λi ρ z C=>(∃y,ρ=[y,rO n,rO r4])/\(∃l:bS,z=l.map (λ(v:Nat)=>W.int (v:Int))/\l.length=i/\∀v∈l,v<ws.length)/\Kn n A C) L rfl
  (λi ρ z C f ⟨⟨y,a⟩,⟨l,h,c,b⟩,D⟩=>by
   subst a h;obtain⟨q,u,e,w,K,_⟩:=Xo D.st (m:=(ws.length:Int)) (by lia) (by lia)
   have E:mQ qe (zZ qc) [some (.int (0+(i:Int))),rO n,rO r4] C=.ok (.int (ws.length:Int)) C:=(jF (yr (zh rfl) (by unfold zK;dsimp only;rw[D.kp.get r J]))).trans rfl
   refine⟨_,_,j8 f,rfl,.inl ⟨C,_,_,u,rfl,Yi ((zR (zr (zh rfl) (zr E zJ))).trans e) (by rw[ag];unfold zT;lia),⟨_,rfl⟩,⟨l++[q],by rw[aN];rfl,by rw[ay,c];rfl,λv H=>?_⟩,D.trans K⟩⟩
   rcases cx.mp H with H|H
   ·exact b v H
   ·rw[cw.mp H];lia)
  (λρ z C _=>j7 (by lia)) (by show(∃y,none::([2,4].map λi=>(ρ[i]?).join)=[y,rO n,rO r4])/\_;rw[g];exact⟨⟨_,rfl⟩,⟨[],rfl,rfl,λv H=>by cases H⟩,⟨Kp.refl,s⟩⟩)
 subst h;obtain⟨i,j,k,rfl⟩:∃i j k,l=[i,j,k]:=by
  match l,c with|[i,j,k],_=>exact⟨i,j,k,rfl⟩
 exact⟨i,j,k,_,B.length,yW e,qH,b i (by simp),b j (by simp),b k (by simp),D.trans (Kn.ext D.st Ext.one)⟩
abbrev TN:Ex:=zG (Wi 7 8 9 D3) (zG (Q0 (qB (zi qD (zi jv zu))) (jD 10 11)) (zG (jA (jM (mQ qe (zZ jw))) (zN 12) LS) (zG (qu 15 (zj qd (zU QC (zi qi (zi (zj zD qv yR) zu))) (zU QC (zi qi (zi (zj zD qv kK) zu))))) (zG (qu 16 (zU J3 (zi (zj qd Ly JB) (zi (zj qd (mQ qe (zZ qi)) JJ) zu)))) (zG (jQ (kj (zU QE (zi (zU J1 (zi qi (zi yR (zi kK (zi WH zu))))) (zi (zM 16) zu)))) kU zX) zX)))))
def n0 (t:bM)(K:Nat)(x y v:bN):(Q5 t K x y v).nr=true:=rfl
def n9 (h:Tb t K)(w:(Rw t K).length=K)(a:(Rw t K)[i]? =some x)(H:(Rw t K)[j]? =some y)(b:(Rw t K)[l]? =some v)(A:Hx):J1 [zo t,.int i,.int j,.int l] A=.ok (Q5 t K x y v) A:=by obtain⟨B,e,_⟩:=nE h w a H b [];exact wH (A1:=B) (by show((zo t).nr&&true)=true;rw[ZK];rfl) (n0 t K x y v) (by show(kz [zo t,.int i,.int j,.int l] []).nox=_;rw[e];rfl)
def og (t:bM)(K:Nat)(x y v:bN)(A:Hx):QE [Q5 t K x y v,Q5 t K x y v] A=.ok (.bl true) A:=by
 unfold Q5 Y1;exact Df (ty:=.tup) rfl rfl rfl rfl (.inl rfl) (by show 2<=1000;lia) λw h=>by
  rcases cm.mp h with rfl|h
  ·exact PQ _ A
  ·rw[cw.mp h]
   exact PQ _ A
def oh (h:Tb t K)(hw:(Rw t K).length=K)(s:qY n A)(Q:A[r4]? =some (.lst ((Rw t K).map zq)))(h5:A[r5]? =some (.lst ((qz t K).map W.int)))(n4:r4≠n)(X:r5≠n){x6 x7 x8 x9 x10 x11 x12 x13 x14 x15 x16 x17 x18 x19:Option W}:
  ∃(i j l:Nat) (D C b a Y z u:Option W) (B:Hx),TN (fl κ n (zo t) r4 r5 x6 x7 x8 x9 x10 x11 x12 x13 x14 x15 x16 x17 x18 x19) A=.ok (.nx (fl κ n (zo t) r4 r5 x6 (iO i) (iO j) (iO l) D C b a Y z u x17 x18 x19)) B/\i<K/\j<K/\l<K/\Kn n A B:=by
 have d:=h.d;obtain⟨i,j,l,B,p,e,Z,P,N,M,kn⟩:=nZ (ρ:=fl κ n (zo t) r4 r5 x6 x7 x8 x9 x10 x11 x12 x13 x14 x15 x16 x17 x18 x19) s rfl rfl Q n4 (by rw[ag,hw];have:=d.k1;lia) (by rw[ag,hw];have:=d.k8;lia)
 rw[ag,hw]at P N M;have H:=kn.kp.get Q n4;have J:=kn.kp.get h5 X;obtain⟨x,o⟩:∃x,(Rw t K)[i]? =some x:=⟨_,ae (by lia)⟩
 obtain⟨y,g⟩:∃x,(Rw t K)[j]? =some x:=⟨_,ae (by lia)⟩
 obtain⟨v,I⟩:∃x,(Rw t K)[l]? =some x:=⟨_,ae (by lia)⟩
 have f:=(Zn d.tab h.s d.kd).mp (aV o);have c:=(Zn d.tab h.s d.kd).mp (aV g);have wv:=(Zn d.tab h.s d.kd).mp (aV I);obtain⟨b,a,Y,S⟩:=nY (κ:=κ) (n:=n) (T:=zo t) (x6:=x6) (x12:=x12) (x13:=x13) (x14:=x14) (x15:=x15) (x16:=x16) (x17:=x17) (x18:=x18) (x19:=x19) d.zs d.k8 H J o g I f.l c.l wv.l (f.sm d.zs) (c.sm d.zs) (wv.sm d.zs);have L:=K4 d f;have E:=K4 d c;have U:=Mf h;have n8:=d.tab.n8;have sq:pz (qz t K) K * pz (qz t K) K=pz (qz t K) K ^ 2:=by grind
 have xy:0<=k9 t.length K (qz t K) x * k9 t.length K (qz t K) y/\k9 t.length K (qz t K) x * k9 t.length K (qz t K) y<=134217728 * 134217728:=⟨bB L.2.1 E.2.1,Int.mul_le_mul L.2.2 E.2.2 E.2.1 (by decide)⟩
 rw[sq]at S;have rw_:∀{q:Nat}{r:bN},(Rw t K)[q]? =some r->zD (.ref r4) (.int (q:Int)) B=.ok (zq r) B:=λ {q r} h=>wa H (by rw[av,h];rfl)
 refine⟨i,j,l,iV (tp (pz (qz t K) K) (qz t K) (uu x y v) K),iV (pz (qz t K) K ^ 2),b,a,Y,iV (k9 t.length K (qz t K) x * k9 t.length K (qz t K) y),some (Q5 t K x y v),B,?_,P,N,M,kn⟩;refine(zy (ρ1:=fl κ n (zo t) r4 r5 x6 (iO i) (iO j) (iO l) x10 x11 x12 x13 x14 x15 x16 x17 x18 x19) (A1:=B) (iB e Z)).trans ?_;refine(zy (ρ1:=fl κ n (zo t) r4 r5 x6 (iO i) (iO j) (iO l) (iV 0) (iV 1) x12 x13 x14 x15 x16 x17 x18 x19) (A1:=B) rfl).trans ((zy S).trans ?_);refine(zy ((qg ((zA ((zR (zr (zh rfl) (zr ((zA (zh rfl) (zh rfl)).trans (rw_ o)) zJ))).trans (G4 d f B).2) ((zR (zr (zh rfl) (zr ((zA (zh rfl) (zh rfl)).trans (rw_ g)) zJ))).trans (G4 d c B).2)).trans jt)).trans rfl)).trans ?_;refine(zy ((qg (w:=Q5 t K x y v) ((zR (zr ((zA (zh rfl) (zh rfl)).trans jt) (zr ((zA (len_tab (t:=t) rfl) (zh rfl)).trans jt) zJ))).trans (nq U.1 U.2 B))).trans rfl)).trans ?_;exact(zy ((jX (kP (k:=true) ((zR (zr ((zR (zr (zh rfl) (zr (zh rfl) (zr (zh rfl) (zr (zh rfl) zJ))))).trans (n9 h hw o g I B)) (zr (zh rfl) zJ))).trans (og t K x y v B)))).trans qx)).trans qx
end
section
variable {w b:W}{Pu:Addr}
abbrev gp:Fn:=λw A=>(QS kz).m (w.map some) A
abbrev T0 (P:Obj->Addr->Obj->List V->Prop):Lm:=Kw kz P gp
abbrev T1 (P:Obj->Addr->Obj->List V->Prop):Lm:=KN kz P gp
def oj (h:QA [w] A=.exc x A1):QO 0 PK gp (zi zF zu) [some (.clo 0 [b] PK),some w] A=.exc x A1:=by
 refine Eq.trans (b:=zU (λu=>gp (u++[b])) (zi zF zu) [some (.clo 0 [b] PK),some w] A) (by unfold QO;exact ai rfl) ?_
 refine(zR (f:=λu=>gp (u++[b])) (ρ:=[some (.clo 0 [b] PK),some w]) (zr (zh (i:=1) rfl) zJ)).trans ?_;exact(zR (f:=kz) (ρ:=[some w,some b]) (zr (zh (i:=0) rfl) (zr (zh (i:=1) rfl) (zr zP (zr zP zJ))))).trans (Lq (rw_E h))
def om {t:Lm}{r g:Nat}(j:t.idx=[0,1])(T:t.m=QO 0 PK gp (zi zF zu))(d:A[2]? =some (.tab yV Pu))(h:A[r]? =some (.lst [.clo 0 [b] PK]))(l:ρ[1]? =some (rO r))(a:ρ[i]? =some (some w))(H:QA [w] A=.exc x A)(c:wd x=some g):
  jN (qy 1 [i] (qF zF) (zN 0) q9 (ql (wg 2 yV Pu t.idx (RG t 0)))) ρ A=.ok (.ref (A++GX g).length) (A++GX g++[.lst [.ref (A.length+11)]]):=by
 refine yW ?_;unfold qy;rw[NG (zh l) h,zI];have e:wg 2 yV Pu t.idx (RG t 0) [some (.clo 0 [b] PK),some w] A=.ok (.ref (A.length+11)) (A++GX g):=O6 d (ws:=[.clo 0 [b] PK,w]) (by rw[j];rfl) (by rw[T];exact oj H) c
 have n:Qj 1 [i] ρ=[none,some w]:=by
  unfold Qj;rw[List.map_singleton,a]
  rfl
 rw[n];have X:Ext A (A++GX g):=⟨_,rfl⟩;have go:ja ⟨λA i=>(zK (.ref r) A).map λf=>f[i]?,1⟩ (zN 0) q9 (ql (wg 2 yV Pu t.idx (RG t 0))) 1 0 [none,some w] [] A=.ok ([some (.clo 0 [b] PK),some w],[.ref (A.length+11)]) (A++GX g):=by
  refine(DP (w:=.clo 0 [b] PK) ((YF h).trans rfl) e (by simp[zT])).trans (Dh ?_)
  exact(YF (X.at h)).trans rfl
 show R.bind (R.nox (ja ⟨λA i=>(zK (.ref r) A).map λf=>f[i]?,1⟩ (zN 0) q9 (ql (wg 2 yV Pu t.idx (RG t 0))) 1 0 [none,some w] [] A)) _=_;rw[go]
 rfl
noncomputable abbrev d1 (g:Nat):PyData:=.list [.list [.int g]]
def ot {a b:W}{d:PyData}(c:qC A 8 a=some d)(H:qC A 8 b=some d)(h:PyData.eqv d d=true):yd a b A=.ok (.bl true) A:=by
 show wX false a b A=_;unfold wX;rw[c,H];dsimp only;rw[h]
 rfl
def ou {g r:Nat}(h:A[r]? =some (.lst [.clo 0 [b] PK]))(H:ρ[1]? =some (rO r)):zj qd (qL (zi (qL (zi (qa (.int g)) zu)) zu)) (mQ qe (zZ zF)) ρ A=.ok (.ref (A.length+2)) (A++[.lst [.int g]]++[.lst [.ref A.length]]++[.lst [.ref A.length]]):=by
 have E:=jI (zr (jI (zr (zP (w:=.int g) (ρ:=ρ) (A:=A)) zJ)) zJ);have e:=Jm (i:=1) H (Ext.at (A':=A++[O.lst [.int g]]++[O.lst [.ref A.length]]) ⟨_,aR ..⟩ h);refine(zA E e).trans ?_;unfold qd;dsimp only;rw[qH];dsimp only;rw[ai (by show(jl 1&&decide (1 * 1<=zT))=true;decide)]
 simp
def Mj {t:Lm}{r g:Nat}(y:t.idx=[0,1])(T:t.m=QO 0 PK gp (zi zF zu))(q:A[2]? =some (.tab yV Pu))(d:A[r]? =some (.lst [.clo 0 [b] PK]))(v:ρ[1]? =some (rO r))(l:ρ[i]? =some (some w))(j:QA [w] A=.exc x A)(n:wd x=some g):
  ∃a b C,Ext A C/\qC C 8 a=some (d1 g)/\qC C 8 b=some (d1 g)/\∀f,zj f (jN (qy 1 [i] (qF zF) (zN 0) q9 (ql (wg 2 yV Pu t.idx (RG t 0))))) (zj qd (qL (zi (qL (zi (qa (.int g)) zu)) zu)) (mQ qe (zZ zF))) ρ A=f a b C:=by
 have e:=om y T q d v l j n;have c:Ext A (A++GX g++[O.lst [.ref (A.length+11)]]):=Ext.app ⟨_,rfl⟩;have p:(A++GX g++[O.lst [.ref (A.length+11)]])[A.length+11]? =some (.lst [.int g]):=jq (M9 A g);have h:(A++GX g++[O.lst [.ref (A.length+11)]])[(A++GX g).length]? =some (.lst [.ref (A.length+11)]):=qH;generalize u:A++GX g++[O.lst [.ref (A.length+11)]]=B at e c p h;have E:=ou (g:=g) (ρ:=ρ) (c.at d) v;have X:Ext B (B++[O.lst [.int g]]++[O.lst [.ref B.length]]++[O.lst [.ref B.length]]):=Ext.one.app.app;have o:(B++[O.lst [.int g]]++[O.lst [.ref B.length]]++[O.lst [.ref B.length]])[B.length]? =some (.lst [.int g]):=jq (jq qH);have H:(B++[O.lst [.int g]]++[O.lst [.ref B.length]]++[O.lst [.ref B.length]])[B.length+2]? =some (.lst [.ref B.length]):=by
  rw[show B.length+2=(B++[O.lst [.int g]]++[O.lst [.ref B.length]]).length by simp]
  exact qH
 refine⟨_,_,_,c.trans X,?_,?_,λf=>zA e E⟩
 ·exact Og (k:=7) (X.at h) (PX (GZ (X.at p)) rfl)
 ·exact Og (k:=7) H (PX (GZ o) rfl)
def XX (P:Addr)(p:Obj->Addr->Obj->List V->Prop):Fn:=qm 4 (Vq Q8 J5 kz p gp RG P)
def ox {r:Nat}{d:Hx}{o:O}(v:Q8 [.ref n] A=.ok w d)(Q:Q3 d w)(L:Kn n A d)(E:J5 [.ref n] d=.ok (zo t) (d.set n o))(S:qY n (d.set n o))(P:qj t)(g:∀B,Kc [zo t] B=.ok (.tup ws) B)
  (H:A[2]? =some (.tab yV Pu))(N:2<n)(h:A[r]? =some (.lst [.clo 0 [b] PK]))(nr:r≠n):∃D,XX Pu PK [.ref n,.ref r] A=.ok (.bl true) D/\Ext (d.set n o) D:=by
 have J:Kn n d (d.set n o):=⟨Kp.set,S⟩;have M:Q3 (d.set n o) w:=Q.mono (J.ky L.st);have K:=L.trans J;generalize j:d.set n o=f at E S J M K;have T:f[2]? =some (.tab yV Pu):=by rw[K.kp.at_ 2 (jU H) (by lia)];exact H
 have e:f[r]? =some (.lst [.clo 0 [b] PK]):=by rw[K.kp.at_ r (jU h) nr];exact h
 obtain⟨a,c,C,x,c1,c2,p⟩:=Mj (t:=T0 PK) (i:=2) (ρ:=[rO n,rO r,some w,some (zo t)]) rfl rfl T e rfl rfl (lA M) Fw;have u:=(p ju).trans (MO c1 c2 (by decide +kernel))
 obtain⟨I,z,D,X,d1,y,l⟩:=Mj (t:=T1 PK) (i:=3) (ρ:=[rO n,rO r,some w,some (zo t)]) rfl rfl (x.at T) (x.at e) rfl rfl (lB P (g C)) Hu;have q:=(l yd).trans (ot d1 y (by decide +kernel))
 refine⟨D,qP ?_,x.trans X⟩;unfold Vq;exact(zy (U7 (wF (zr ((zR (zr (zh rfl) zJ)).trans v) (zr ((zR (zr (zh rfl) zJ)).trans E) zJ))) rfl)).trans ((zy ((jX u).trans qx)).trans (qp (qI q)))
end
section
variable {w b:W}{Pu:Addr}{l l3:List W}
def WM (l:List W):Option (List W):=(YY QF [.int 15] l).bind (YY W4 [])
def NC (P:Addr)(n:Nat)(w:List W)(A:Hx):Prop:=2<n/\qY n A/\A[2]? =some (.tab yV P)/\∃b,w=[b]
open Classical in
def NT (P:Addr):W->List W->Hx->R W:=λw a A=>match w with
 |.ref n=>(match A[n]? with
  |some (.lst l)=>(match WM l with|some L=>if NC P n a A then .ok (.bl true) ((A++[O.lst [.clo 0 [] PJ]]).set n (.lst L)) else .bad|none=>.bad)
  |_=>.bad)
 |_=>.bad
set_option tactic.hygienic true in
def hand (P:Obj->Addr->Obj->List V->Prop)(w:W)(J:List W)(A:Hx):Hand (XX Pu) (NT Pu) P w J A:=by
 by_cases h:NT Pu w J A=.bad
 ·exact .inl h
 right
 unfold NT at h
 split at h
 ·rename_i n
  split at h
  ·rename_i l a
   split at h
   ·rename_i p g
    split at h
    ·rename_i e
     have d:=e;obtain⟨N,s,X,b,rfl⟩:=e;have ln:=jU a;have c:(A++[O.lst [.clo 0 [b] P]])[n]? =some (.lst l):=jq a;have T:qY n (A++[O.lst [.clo 0 [b] P]]):=s.ext Ext.one;obtain⟨w,I,B,Y,K,C,g1,Z⟩:=MZ T c;obtain⟨t,o,E,S,U,vs,q⟩:=M8 K.st;obtain⟨L,f1,f2,v⟩:=Us (f:=W4) (us:=[]) Z E;have z:L=p:=by
      have:WM l=some L:=by unfold WM;rw[g1];exact f1
      rw[g]at this;cases this
      rfl
     subst z;obtain⟨D,y,x⟩:=ox (r:=A.length) (PK:=P) (b:=b) B Y K E S U q (jq X) N qH (by lia)
     refine⟨.bl true,D,n,l,L,y,rfl,?_,a,v,?_,λi u Q=>?_⟩
     ·unfold NT
      dsimp only;rw[a];dsimp only;rw[g];dsimp only;rw[ai d]
     ·refine x.at ?_
      rw[f2];exact aw K.st.lt
     ·have j:i<(A++[O.lst [.clo 0 [b] P]]).length:=by simpa using u
      obtain⟨M,H⟩:∃M,(A++[O.lst [.clo 0 [b] P]])[i]? =some M:=⟨_,ae j⟩;rw[H];refine x.at ?_;rw[au (Ne.symm Q)];exact K.kp.get H Q
    ·exact absurd rfl h
   ·exact absurd rfl h
  ·exact absurd rfl h
 ·exact absurd rfl h
end
section
variable {K r4 r5 j k l κ:Nat}{a b c w:W}{Pu:Addr}{x6 x7 x8 x9 x10 x11 x12 x13 x14 x15 x16 x17 x18 x19:Option W}
def HU:wd "NoNumber"=some 5:=by decide +kernel
def HH:wd "NotWhole"=some 16:=by decide +kernel
noncomputable def Wn (K:Nat):List W:=[.int K,.int (-1),.bl true,.non,.str "0",.tup [.int 0],.int (10 ^ 29),.bl false]
def Ad (H:K<=8)(h:w∈Wn K):Cw w/\yn K w=false:=by
 simp only[Wn,mem_cons,bE,or_false]at h;rcases h with rfl|rfl|rfl|rfl|rfl|rfl|rfl|rfl
 ·refine⟨cw_int _,?_⟩
  show(true&&(decide ((0:Int)<=K)&&decide ((K:Int)<K)))=false;rw[aG (Int.lt_irrefl _),Bool.and_false]
  rfl
 ·exact⟨cw_int _,rfl⟩
 ·exact⟨⟨rfl,_,λ_=>rfl⟩,rfl⟩
 ·exact⟨⟨rfl,_,λ_=>rfl⟩,rfl⟩
 ·exact⟨⟨rfl,_,λ_=>rfl⟩,rfl⟩
 ·exact⟨⟨rfl,_,λ_=>rfl⟩,rfl⟩
 ·refine⟨cw_int _,?_⟩
  show(true&&(decide ((0:Int)<=10 ^ 29)&&decide ((10 ^ 29:Int)<K)))=false;rw[aG (show ¬(10 ^ 29:Int)<K by lia),Bool.and_false]
  rfl
 ·exact⟨⟨rfl,_,λ_=>rfl⟩,rfl⟩
abbrev OE:Ev:=qL (zi (mQ qe (zZ qv)) (zi (yU Qr jv) (zi q9 (zi WD (zi (qa (.str "0")) (zi (qB (zi qD zu)) (zi (zj YI SV (qa (.int 29))) (zi SY zu))))))))
def oy (s:qY n A)(H:K<=8)(d:(Rw t K).length=K)(a:A[r4]? =some (.lst ((Rw t K).map zq)))(P:ρ[2]? =some (rO n))(p:ρ[4]? =some (rO r4)):∃w B,zj zD OE (zU yx (zi qc (zi JW zu))) ρ A=.ok w B/\Cw w/\yn K w=false/\Kn n A B:=by
 have E:mQ qe (zZ qv) ρ A=.ok (.int (K:Int)) A:=by have e:=Jm p a;rw[ag,d]at e;exact e
 obtain⟨q,C,e,b,c,_⟩:=Xo (s.ext (Ext.one (o:=.lst (Wn K)))) (m:=8) (by decide) (by decide)
 have h:q<(Wn K).length:=by show q<8;lia
 obtain⟨g,f⟩:=Ad H (aL h);exact⟨(Wn K)[q],C,(zA (jI (zr E (zr ((NZ zP).trans rfl) (zr zP (zr zP (zr zP (zr (wF (zr zP zJ)) (zr ((zA zP zP).trans (by kernel_rfl)) (zr zP zJ))))))))) ((zR (zr (zh P) (zr zP zJ))).trans e)).trans (wa (c.kp.get qH (by have:=s.lt;lia)) (ae h)),g,f,(Kn.ext s Ext.one).trans c⟩
abbrev T2:Lm:=KC kz
abbrev T3:Lm:=KI kz
abbrev NB (P:Addr):Ex:=zG (jQ (zj ju (wg 1 kf P T2.idx (RG T2 0)) (qL (zi JT zu))) kU zX) zX
def Ma {m:Lm}{y:Str}{g:Nat}(a:A[1]? =some (.tab kf Pt))(c:gF m.idx ρ=some ws)(H:m.m (ws.map some) A=.exc y B)(h:wd y=some g)(x:Ext A B):∃C,jQ (zj ju (wg 1 kf Pt m.idx (RG m 0)) (qL (zi (qa (.int g)) zu))) kU zX ρ A=.ok (.nx ρ) C/\Ext A C:=
 ⟨_,(jX ((zA (O6 a c H h) (jI (zr zP zJ))).trans (MO (d:=.list [.int g]) (GZ (k:=7) (jq (M9 B g))) (GZ (k:=7) qH) (by show PyData.eqv (.list [.int g]) (.list [.int g])=true;rw[PyData.eqv,PyData.eqvAll,PyData.eqvAll,PyData.eqv];simp)))).trans qx,(x.trans ⟨_,rfl⟩).app⟩
def oz (h:Tb t K)(w:(Rw t K).length=K)(j:A[1]? =some (.tab kf Pt))(g:Cw a)(f:Cw b)(d:Cw c)(n:(yn K a&&(yn K b&&yn K c))=false)(H:gF T2.idx ρ=some [zo t,.tup [a,b,c]]):∃B,NB Pt ρ A=.ok (.nx ρ) B/\Ext A B:=by
 obtain⟨B,e,x⟩:=nF h w g f d n A;obtain⟨C,E,X⟩:=Ma (m:=T2) j H (B:=B) (by show zU kz (zi zH (zi (zj zD zF qD) (zi (zj zD zF jv) (zi (zj zD zF Q2) zu)))) [some (zo t),some (.tup [a,b,c])] A=_;exact(zR (ρ:=[some (zo t),some (.tup [a,b,c])]) (zr (zh (i:=0) rfl) (zr ((zA (zh (i:=1) rfl) zP).trans rfl) (zr ((zA (zh (i:=1) rfl) zP).trans rfl) (zr ((zA (zh (i:=1) rfl) zP).trans rfl) zJ))))).trans e) HU x
 exact⟨C,(zy E).trans qx,X⟩
abbrev FE:Ev:=qL (zi (qB (zi (zM 17) (zi yR (zi kK zu)))) (zi (qB (zi yR (zi (zM 17) (zi kK zu)))) (zi (qB (zi yR (zi kK (zi (zM 17) zu)))) (zi (qB (zi (zM 17) (zi (zM 17) (zi (zM 17) zu)))) zu))))
def oA (h:Tb t K)(hw:(Rw t K).length=K)(D:A[1]? =some (.tab kf Pt))(H:Cw b)(hn:yn K b=false)(d:ρ[7]? =some (iO i))(P:ρ[8]? =some (iO j))(p:ρ[17]? =some (some b))(C:∀w,gF T2.idx (ρ.set 18 (some w))=some [zo t,w]):∃y B,jA (qF FE) (zN 18) (NB Pt) ρ A=.ok (.nx (ρ.set 18 y)) B/\Ext A B:=by
 let Z:List W:=[.tup [b,.int i,.int j],.tup [.int i,b,.int j],.tup [.int i,.int j,b],.tup [b,b,b]]
 have l:(A++[O.lst Z])[A.length]? =some (.lst Z):=qH;have tp:∀{m1 m2 M:Ev}{x y z:W},m1 ρ A=.ok x A->m2 ρ A=.ok y A->M ρ A=.ok z A->qB (zi m1 (zi m2 (zi M zu))) ρ A=.ok (.tup [x,y,z]) A:=λa b c=>wF (zr a (zr b (zr c zJ)));have L:qF FE ρ A=.ok ⟨λA' i=>(zK (.ref A.length) A').map λws=>ws[i]?,4⟩ (A++[O.lst Z]):=
  NG (jI (zr (tp (zh p) (zh d) (zh P)) (zr (tp (zh d) (zh p) (zh P)) (zr (tp (zh d) (zh P) (zh p)) (zr (tp (zh p) (zh p) (zh p)) zJ))))) l
 have one:∀(q:Nat),q<4->∃u v w,Z[q]? =some (.tup [u,v,w])/\Cw u/\Cw v/\Cw w/\(yn K u&&(yn K v&&yn K w))=false:=λq g=>by
  match q,g with|0,_=>exact⟨_,_,_,rfl,H,cw_int _,cw_int _,by rw[hn];rfl⟩|1,_=>exact⟨_,_,_,rfl,cw_int _,H,cw_int _,by rw[hn,Bool.false_and,Bool.and_false]⟩|2,_=>exact⟨_,_,_,rfl,cw_int _,cw_int _,H,by rw[hn,Bool.and_false,Bool.and_false]⟩|3,_=>exact⟨_,_,_,rfl,H,H,H,by rw[hn];rfl⟩|q+4,h=>exact absurd h (by lia)
 obtain⟨n,B,J,r,X⟩:=ye (j:=⟨λA' i=>(zK (.ref A.length) A').map λws=>ws[i]?,4⟩) (st:=turn (zN 18) (NB Pt)) (N:=4) (I:=λq Y B=>(Y.set 18 none=ρ.set 18 none/\(q=4->∃y,Y=ρ.set 18 y))/\Ext (A++[O.lst Z]) B)
  (λq Y B g ⟨⟨f,_⟩,X⟩=>by
   obtain⟨u,v,w,e,c1,c2,T,S⟩:=one q g;have E:Y.set 18 (some (.tup [u,v,w]))=ρ.set 18 (some (.tup [u,v,w])):=by
    have:=congrArg (·.set 18 (some (W.tup [u,v,w]))) f
    simpa using this
   obtain⟨U,Q,o⟩:=oz h hw (X.at (jq D)) c1 c2 T S (C (.tup [u,v,w]));exact⟨_,_,_,(YF (X.at l)).trans (by rw[e]),(jB (by show some _=_;rw[E])).trans Q,⟨by simp,λ_=>⟨_,rfl⟩⟩,X.trans o⟩)
  (λY B ⟨_,X⟩=>(YF (X.at l)).trans rfl) 4 0 ρ _ (by lia) ⟨⟨rfl,λz=>absurd z (by decide)⟩,.refl⟩
 obtain⟨y,rfl⟩:=r.2 rfl;exact⟨y,B,(jo L).trans J,Ext.one.trans X⟩
abbrev PE:Ev:=zU ZG (zi (zj zD (qL (zi JT (zi Vl (zi JW zu)))) (zU yx (zi qc (zi YU zu)))) zu)
def oB (s:qY n A)(p:ρ[2]? =some (rO n)):∃u K B,zU ZY (zi qc (zi PE zu)) ρ A=.ok (zo u) B/\Tb u K/\(Rw u K).length≠K/\Kn n A B:=by
 obtain⟨r,a,f,q,t,l⟩:=Xo (s.ext (Ext.one (o:=.lst [.int 5,.int 7,.int 8]))) (m:=3) (by decide) (by decide)
 have h:a[A.length]? =some (.lst [.int 5,.int 7,.int 8]):=t.kp.get qH (by have:=s.lt;lia)
 have ek:∃i,i<12/\¬i<9/\PE ρ A=.ok (zo (bT i)) a:=by
  have g:∀v:Int,[(.int 5:W),.int 7,.int 8][r]? =some (.int v)->zj zD (qL (zi JT (zi Vl (zi JW zu)))) (zU yx (zi qc (zi YU zu))) ρ A=.ok (.int v) a:=λv H=>(zA (jI (zr zP (zr zP (zr zP zJ)))) ((zR (zr (zh p) (zr zP zJ))).trans f)).trans (wa h H);have C:r=0∨r=1∨r=2:=by lia
  rcases C with rfl|rfl|rfl
  ·exact⟨9,by decide,by decide,(zR (zr (g 5 rfl) zJ)).trans (m9 _)⟩
  ·exact⟨10,by decide,by decide,(zR (zr (g 7 rfl) zJ)).trans (nc _)⟩
  ·exact⟨11,by decide,by decide,(zR (zr (g 8 rfl) zJ)).trans (nh _)⟩
 obtain⟨i,c,d,e⟩:=ek;obtain⟨u,K,j,b,w,E,S⟩:=ni c d t.st;exact⟨u,K,_,(zR (zr (zh p) (zr e zJ))).trans E,b,w,((Kn.ext s Ext.one).trans t).trans ⟨Kp.set,S⟩⟩
abbrev Ig (P:Addr):Ex:=jQ (zj ju (wg 1 kf P T3.idx (RG T3 0)) (qL (zi (qa (.int 16)) zu))) kU zX
def oC (h:Tb t K)(w:(Rw t K).length≠K)(a:A[1]? =some (.tab kf Pt))(H:gF T3.idx ρ=some [b,zo t]):∃B,Ig Pt ρ A=.ok (.nx ρ) B/\Ext A B:=
 Ma (m:=T3) a H ((zR (ρ:=[some b,some (zo t)]) (zr (zh (i:=1) rfl) (zr (zh (i:=0) rfl) (zr (zh (i:=0) rfl) (zr (zh (i:=0) rfl) zJ))))).trans (Lq (rw_X h w A))) HH Ext.one
def oD (s:qY n A)(N:2<n)(c:A[2]? =some (.tab yV Pu))(b:W):∃l,NT Pu (.ref n) [b] A=.ok (.bl true) ((A++[O.lst [.clo 0 [] PJ]]).set n (.lst l)):=by
 obtain⟨x,y,h,_⟩:=id s;obtain⟨w,B,a,p,K,L,d,g⟩:=MZ s h;obtain⟨t,o,E,S,j,v,H⟩:=M8 K.st;obtain⟨l,i,_,_⟩:=Us (f:=W4) (us:=[]) g E;have e:WM [.int x,.bl y]=some l:=by unfold WM;rw[d];exact i
 refine⟨l,?_⟩;unfold NT;dsimp only;rw[h];dsimp only;rw[e];dsimp only;rw[ai ⟨N,s,c,b,rfl⟩]
structure jf (ns:bN)(Pt Pu:Addr)(A:Hx):Prop where
 h0:A[0]? =some (.ro (ns.map W.int))
 h1:A[1]? =some (.tab kf Pt)
 h2:A[2]? =some (.tab yV Pu)
def jf.kp {P:Addr}(h:jf ns Pt P A)(k:Kp n A B)(H:2<n):jf ns Pt P B:=
 ⟨(k.at_ 0 (jU h.h0) (by lia)).trans h.h0,(k.at_ 1 (jU h.h1) (by lia)).trans h.h1,(k.at_ 2 (jU h.h2) (by lia)).trans h.h2⟩
abbrev BL (P p:Addr):Ex:=zG (qu 2 (zU J8 (zi zH (zi zF zu)))) (zG (qu 3 (zU J0 (zi qc zu))) (zG (Q0 (qB (zi (zU Q7 (zi qi zu)) (zi (zU QD (zi qi zu)) zu))) (jD 4 5)) (zG (jA (jM Va) (zN 6) TN) (zG (qu 17 (zj zD OE (zU yx (zi qc (zi JW zu))))) (zG (jA (qF FE) (zN 18) (NB P)) (zG (qu 19 (zU ZY (zi qc (zi PE zu)))) (zG (Ig P) (zG (jQ (kj (Yt 1 kf P (QS kz).idx qc (NT p))) kU zX) zX))))))))
def oE (h:Tb t K)(hw:(Rw t K).length=K)(s:qY n A)(L:A[r4]? =some (.lst ((Rw t K).map zq)))(J:A[r5]? =some (.lst ((qz t K).map W.int)))(U:r4≠n)(o:r5≠n):
  ∃(Q:Option W) (i j l:Nat) (f d c b a Y y:Option W) (B:Hx),jA (jM Va) (zN 6) TN (fl κ n (zo t) r4 r5 x6 x7 x8 x9 x10 x11 x12 x13 x14 x15 x16 x17 x18 x19) A=.ok (.nx (fl κ n (zo t) r4 r5 Q (iO i) (iO j) (iO l) f d c b a Y y x17 x18 x19)) B/\Kn n A B:=by
 obtain⟨p,B,e,⟨Q,P,M,g,f,d,c,b,a,Y,y,rfl,D⟩,S⟩:=ye (j:=jG 0 4) (st:=turn (zN 6) TN) (N:=4) (I:=λq T B=>(∃Q P M g f d c b a Y y,T=fl κ n (zo t) r4 r5 Q P M g f d c b a Y y x17 x18 x19/\(0<q->∃i j l:Nat,P=iO i/\M=iO j/\g=iO l))/\Kn n A B)
  (λq T B E ⟨⟨Q,P,M,g,f,d,c,b,a,Y,y,H,_⟩,S⟩=>by
   subst H;obtain⟨i,j,l,x,w,v,u,r,Z,z,C,e,_,_,_,X⟩:=oh (κ:=κ) (x6:=iO q) (x7:=P) (x8:=M) (x9:=g) (x10:=f) (x11:=d) (x12:=c) (x13:=b) (x14:=a) (x15:=Y) (x16:=y) (x17:=x17) (x18:=x18) (x19:=x19) h hw S.st (S.kp.get L U) (S.kp.get J o) U o;refine⟨_,_,C,j8 E,(jB (ρ1:=fl κ n (zo t) r4 r5 (iO q) P M g f d c b a Y y x17 x18 x19) ?_).trans e,⟨_,_,_,_,_,_,_,_,_,_,_,rfl,λ_=>⟨i,j,l,rfl,rfl,rfl⟩⟩,S.trans X⟩;rw[Int.zero_add]
   rfl)
  (λT B _=>j7 (by lia)) 4 0 _ A (by lia) ⟨⟨_,_,_,_,_,_,_,_,_,_,_,rfl,λh=>absurd h (by lia)⟩,⟨Kp.refl,s⟩⟩
 obtain⟨i,j,l,rfl,rfl,rfl⟩:=D (by lia)
 exact⟨Q,i,j,l,f,d,c,b,a,Y,y,B,(jo (yG (m:=Va) (k:=4) zP (by decide))).trans e,S⟩
def AA (h:jf ns Pt Pu A){x2 x3 x4:Option W}:∃y2 y3 y4 y5 y6 y7 y8 y9 g f e c a Y y C p z B,BL Pt Pu [rO 0,iO k,x2,x3,x4,x5,x6,x7,x8,x9,x10,x11,x12,x13,x14,x15,x16,x17,x18,x19] A=.ok (.nx [rO 0,iO k,y2,y3,y4,y5,y6,y7,y8,y9,g,f,e,c,a,Y,y,C,p,z]) B/\jf ns Pt Pu B:=by
 have l2:=jU h.h2;obtain⟨o,U,s1⟩:=AB h.h0 k;have h1:jf ns Pt Pu (A++[o]):=⟨jq h.h0,jq h.h1,jq h.h2⟩;generalize hn:A.length=n at U s1;generalize hA1:A++[o]=A1 at U s1 h1;have N:2<n:=by lia
 obtain⟨t,K,o1,T,hw,e2,s2⟩:=AU s1;have k2:Kn n A1 (A1.set n o1):=⟨Kp.set,s2⟩;generalize hA2:A1.set n o1=A2 at e2 s2 k2;have k8:=T.d.k8;have e3:=T.al (by lia) A2
 have P:QD [zo t] (A2++[.lst ((Rw t K).map zq)])=.ok (.ref (A2++[O.lst ((Rw t K).map zq)]).length) (A2++[O.lst ((Rw t K).map zq)]++[O.lst ((qz t K).map W.int)]):=T.d.zf _;have Z:Ext A2 (A2++[O.lst ((Rw t K).map zq)]++[O.lst ((qz t K).map W.int)]):=Ext.one.app;have H:(A2++[O.lst ((Rw t K).map zq)]++[O.lst ((qz t K).map W.int)])[A2.length]? =some (.lst ((Rw t K).map zq)):=jq qH;have M:(A2++[O.lst ((Rw t K).map zq)]++[O.lst ((qz t K).map W.int)])[(A2++[O.lst ((Rw t K).map zq)]).length]? =some (.lst ((qz t K).map W.int)):=qH;have n5:(A2++[O.lst ((Rw t K).map zq)]).length≠n:=by have:=s2.lt;rw[ay];lia
 have n4:A2.length≠n:=by have:=s2.lt;lia
 have k3:=k2.trans (Kn.ext s2 Z);generalize hA3:A2++[O.lst ((Rw t K).map zq)]++[O.lst ((qz t K).map W.int)]=A3 at P Z H M k3;generalize (A2++[O.lst ((Rw t K).map zq)]).length=r5 at P M n5;generalize A2.length=r4 at e3 H n4;obtain⟨y6,i,j,l,g,f,e,c,a,Y,y,A4,e5,I⟩:=oE (κ:=k) (x6:=x6) (x7:=x7) (x8:=x8) (x9:=x9) (x10:=x10) (x11:=x11) (x12:=x12) (x13:=x13) (x14:=x14) (x15:=x15) (x16:=x16) (x17:=x17) (x18:=x18) (x19:=x19) T hw k3.st H M n4 n5;obtain⟨b,A5,e6,hb,L,k5⟩:=oy (ρ:=fl k n (zo t) r4 r5 y6 (iO i) (iO j) (iO l) g f e c a Y y x17 x18 x19) I.st k8 hw (I.kp.get H n4) rfl rfl;have r:=(k3.trans I).trans k5;have o5:=h1.kp r.kp N;obtain⟨p,A6,e7,D⟩:=oA (ρ:=fl k n (zo t) r4 r5 y6 (iO i) (iO j) (iO l) g f e c a Y y (some b) x18 x19) T hw o5.h1 hb L rfl rfl rfl λ_=>rfl;have w:=r.trans (Kn.ext r.st D);obtain⟨u,K',A7,e8,hu,J,k7⟩:=oB (ρ:=fl k n (zo t) r4 r5 y6 (iO i) (iO j) (iO l) g f e c a Y y (some b) p x19) w.st rfl;have q:=w.trans k7;obtain⟨x,e9,X⟩:=oC (b:=b) (ρ:=fl k n (zo t) r4 r5 y6 (iO i) (iO j) (iO l) g f e c a Y y (some b) p (some (zo u))) hu J (h1.kp q.kp N).h1 rfl;have v:=q.trans (Kn.ext q.st X);have E:=h1.kp v.kp N;obtain⟨l3,S⟩:=oD v.st N E.h2 b;have o9:jf ns Pt Pu ((x++[O.lst [.clo 0 [] PJ]]).set n (.lst l3)):=E.kp ((Kp.ext Ext.one).trans Kp.set) N;refine⟨rO n,some (zo t),rO r4,rO r5,y6,iO i,iO j,iO l,g,f,e,c,a,Y,y,some b,p,some (zo u),_,?_,o9⟩;refine(zy ((qg ((zR (zr (zh rfl) (zr (zh rfl) zJ))).trans U)).trans rfl)).trans ?_;refine(zy ((qg ((zR (zr (zh rfl) zJ)).trans e2)).trans rfl)).trans ?_;refine(zy (ρ1:=fl k n (zo t) r4 r5 x6 x7 x8 x9 x10 x11 x12 x13 x14 x15 x16 x17 x18 x19) (A1:=A3) (U7 (wF (zr ((zR (zr (zh rfl) zJ)).trans e3) (zr ((zR (zr (zh rfl) zJ)).trans P) zJ))) rfl)).trans ?_;refine(zy e5).trans ((zy ((qg e6).trans rfl)).trans ((zy e7).trans ((zy ((qg e8).trans rfl)).trans ((zy e9).trans ?_))));have Q:Yt 1 kf Pt (QS kz).idx qc (NT Pu) (fl k n (zo t) r4 r5 y6 (iO i) (iO j) (iO l) g f e c a Y y (some b) p (some (zo u))) x=.ok (.bl true) ((x++[O.lst [.clo 0 [] PJ]]).set n (.lst l3)):=by
  unfold Yt;rw[show qc (fl k n (zo t) r4 r5 y6 (iO i) (iO j) (iO l) g f e c a Y y (some b) p (some (zo u))) x=.ok (.ref n) x from rfl,zI,E.h1]
  dsimp only;rw[ai ⟨rfl,rfl⟩];exact S
 exact(zy ((jX (kP (k:=true) Q)).trans qx)).trans qx
end
def Sl (p P:Addr):Fn:=qm 20 (T7 Q7 J3 QC ZG QE QD J8 yx ZY J0 J1 kz (NT P) RG p)
def CL:Mp kf yV Sl:=λns hl p P=>by
 have x:zK (.ref 0) [.ro (ns.map W.int),.tab kf p,.tab yV P]=some (ns.map W.int):=rfl;generalize U:[O.ro (ns.map W.int),.tab kf p,.tab yV P]=A0 at x;have h0:jf ns p P A0:=by rw[<- U];exact⟨rfl,rfl,rfl⟩
 have X:mQ qe (zZ zH) [rO 0,none,none,none,none,none,none,none,none,none,none,none,none,none,none,none,none,none,none,none] A0=.ok (.int ns.length) A0:=by rw[jF (yr (w:=.ref 0) (A1:=A0) (zh rfl) x)];unfold qe;rw[ag]
 have em:zj Sr jv (zj T5 (mQ qe (zZ zH)) JT) [rO 0,none,none,none,none,none,none,none,none,none,none,none,none,none,none,none,none,none,none,none] A0=
   .ok (.int (if (if (5:Int)<ns.length then 5 else(ns.length:Int)) > 1 then(if (5:Int)<ns.length then 5 else(ns.length:Int)) else 1)) A0:=
  (zA (zP (w:=.int 1)) ((zA X (zP (w:=.int 5))).trans rfl)).trans rfl
 generalize S:(if (if (5:Int)<ns.length then 5 else(ns.length:Int)) > 1 then(if (5:Int)<ns.length then 5 else(ns.length:Int)) else 1)=v at em;have r:jl v=true:=by
  have:0<=v/\v<1000:=by
   rw[<- S]
   split<;>split<;>lia
  obtain⟨k,rfl⟩:=a5 this.1;exact Jb (by lia)
 obtain⟨z,B,e,_,_⟩:=ye (j:=jG 0 v.toNat) (st:=turn (zN 1) (BL p P)) (N:=v.toNat) (I:=λ_ ρ B=>jf ns p P B/\∃u q o y4 y5 y6 y7 y8 n l h g f d c b a Y y,ρ=[rO 0,u,q,o,y4,y5,y6,y7,y8,n,l,h,g,f,d,c,b,a,Y,y])
  (λi ρ B T ⟨h0,u,q,o,y4,y5,y6,y7,y8,n,l,h,g,f,d,c,b,a,Y,y,H⟩=>by subst H;obtain⟨z2,z3,z4,z5,z6,z7,z8,z9,Q,M,L,K,J,E,D,C,A,Z,B',e,t⟩:=AA (k:=i) (x2:=q) (x3:=o) (x4:=y4) (x5:=y5) (x6:=y6) (x7:=y7) (x8:=y8) (x9:=n) (x10:=l) (x11:=h) (x12:=g) (x13:=f) (x14:=d) (x15:=c) (x16:=b) (x17:=a) (x18:=Y) (x19:=y) h0;refine⟨_,_,B',j8 T,(jB (ρ1:=[rO 0,iO i,q,o,y4,y5,y6,y7,y8,n,l,h,g,f,d,c,b,a,Y,y]) ?_).trans e,t,_,_,_,_,_,_,_,_,_,_,_,_,_,_,_,_,_,_,_,rfl⟩;rw[Int.zero_add];rfl)
  (λρ B _=>j7 (by lia)) v.toNat 0 [rO 0,none,none,none,none,none,none,none,none,none,none,none,none,none,none,none,none,none,none,none] A0 (by lia) ⟨h0,_,_,_,_,_,_,_,_,_,_,_,_,_,_,_,_,_,_,_,rfl⟩
 refine⟨B,qP ?_⟩;unfold T7;exact(zy ((jo (yG em r)).trans e)).trans (qp (qI zP))
section
variable {K:Frag}
def RH (Z:Zz K h mg){j:Nat}{PG:gZ}{l:Nat->Fn}(H:∀k,QU P w K mg base j (PG k) (l k)):qG P w K mg base (j+1) "_law_refused" 1 ((qm 4 (Ka PG l))):=by obtain⟨f,d,F,a⟩:=Z.T.Hi;exact(Hg (k:=j) Z.B Z.C Z.T.zdV F (mg_of Z.X Z.G a) (ao _) H)
def oF (Z:Zz K h mg){c p:Addr}(H:tabIn K "_law_no_table_right"=some (c,p))(e:BMain mg base)(C:CodeHd base c p)(g:Obj->Addr->Obj->List V->Prop)(d:∀b,wZ base b->Qb P w K mg b 10 g λws A=>(QS kz).m (ws.map some) A):qG P w K mg base 13 "_law_no_table_right" 2 (XX p g):=by obtain⟨f,i,F,a⟩:=Z.T.Il;exact Ik (k:=12) (j:=10) (kk:=12) Z.B F a H (mg_of Z.X Z.G a) e C (IT Z).up (HX Z).up (by decide) (λbase=>(Vz Z).up) d (λt base PG L=>(RH Z L).imp λu A _=>NO u A)
def oG (Z:Zz K h mg){c d p:Addr}(F:kL K "law" "law" Ju f fd)(n:nsIn K mainGlobals "law"=some (some (.ref f)))(i:tabIn K "law"=some (c,Pt))(u:tabIn K "_law_no_table_right"=some (d,p))(H:BMain mg base)(C:CodeHd base c Pt)(D:CodeHd base d p):yh P w K mg base kq 14 f fd ["_law_script"] (g9 K 1 (Sl Pt p)):=
 o_law (k:=13) (j:=9) (kk:=11) Z.B F n i H C (Iw Z).up (Ht Z).up (FW Z).up (Ge Z).up (Ee Z).up (V4 Z).up (FG Z).up (Ja Z).up (Rx Z).up (IL Z).up (IZ Z).up (by decide) (λbase=>(Vz Z).up) (kn:=13) (fN:=XX p) (NT:=NT p) (by decide) (λe S q g=>oF Z u (let ⟨l,o,a,b,c,d,r⟩:=H;⟨l,o,a,b,c,S _ _ d,r⟩) (D.keeps S) q g) hand (λt base PG L=>(RH Z L).imp λU A _=>NO U A)
def all_mk {l:PySem.W.OpenLaw}{fa P:Addr}(X:K.In h)(Gl:h.Ns mainGlobals mg)(b:mg "law"=some (.ref fa))(T:Tx K)(t:∃c,tabIn K "law"=some (c,Pt)/\codeHdIn K c Pt=true)(H:∃c,tabIn K "_law_no_table_right"=some (c,P)/\codeHdIn K c P=true):
  ∃p:FuncData,(∀(s:Shared)(v:Value),BindsTo s p ⟨[v],[]⟩ [("_law_script",v)])/\∀base:Heap,K.In base->base.Ns mainGlobals mg->BMain mg base->yh l.prog w K mg base kq 14 fa p ["_law_script"] (g9 K 1 (Sl Pt P)):=by
 obtain⟨c,t,g⟩:=t;obtain⟨d,H,u⟩:=H;obtain⟨f,p,F,a⟩:=T.zdA;have e:=b.symm.trans (mg_of X Gl a);cases e;obtain⟨n,j,kV,D,q,A,C,ct,o,rfl,L,i⟩:=id F.ex;exact⟨_,λs v=>.of_eq rfl,λbase kb nb B=>oG (zz X Gl T) F a t H B (codeHd_of_K kb g) (codeHd_of_K kb u)⟩
end
end G
namespace PySem.W.Fast
def tw5473008320853114464:Nat:=0
def tw273414754248221523:Nat:=0
def tw7482618877631856329:Nat:=0
def tw17657061131406867398:Nat:=0
def tw11545145860752497233:Nat:=0
def tw7375551422321630499:Nat:=0
def tw7769033314724217611:Nat:=0
def tw12118151099333145235:Nat:=0
def tw4078266723537331084:Nat:=0
def tw16954894377051348416:Nat:=0
def tw4441388052901884954:Nat:=0
def tw7538799623591813629:Nat:=0
def tw573972138740625688:Nat:=0
def tw11731920641236256901:Nat:=0
def tw14603894681337306918:Nat:=0
def tw2633009107171896552:Nat:=0
def tw886934909365196668:Nat:=0
def tw2732175609360485472:Nat:=0
def tw6205850076510257385:Nat:=0
def tw11451233151630816932:Nat:=0
def tw14393208374345119887:Nat:=0
def tw4452653828666735849:Nat:=0
def tw12456598432707873761:Nat:=0
def tw92502350843386250:Nat:=0
def tw11921716147992380189:Nat:=0
def tw18214932855396466245:Nat:=0
def tw18375129226864074216:Nat:=0
def tw4328676445125810025:Nat:=0
def tw12887225054494458389:Nat:=0
def tw6712411069353155295:Nat:=0
def tw10946116055817968526:Nat:=0
def tw11507587687510018690:Nat:=0
def tw12138403730680193024:Nat:=0
def tw18149571360782791266:Nat:=0
def tw12174711297324370474:Nat:=0
def tw1858366994842066499:Nat:=0
def tw17754248746133835582:Nat:=0
def tw637381949911170711:Nat:=0
def tw2226485345669207841:Nat:=0
def tw2064737935616495858:Nat:=0
def tw11290246054241161528:Nat:=0
def tw9739386307846605268:Nat:=0
def tw7708845812631887891:Nat:=0
def tw10687460445176126560:Nat:=0
def tw14850496787913853240:Nat:=0
def tw18202146666726306762:Nat:=0
def tw6834627800195635670:Nat:=0
def tw5611860450570911814:Nat:=0
def tw9730317449705458294:Nat:=0
def tw18403716731316252291:Nat:=0
def tw6300286182438894296:Nat:=0
def tw9598870917254996348:Nat:=0
end PySem.W.Fast
open PySem PySem.W PyProof.Rows
set_option maxRecDepth 100000 in
set_option maxHeartbeats 0 in
theorem PySem.Challenge.cw_nearkinds_k41_turned_numbers_holds : PySem.Challenge.rw_nearkinds_k41_turned_numbers.Holds := by
 w_on;o_law;k_head;(case hw=>w_witness2)
 k_fill
 refine' Mi.zdI (y := "_law_no_table_right") (l:=PySem.Challenge.rw_nearkinds_k41_turned_numbers) (k:=14) (x := "_law_script") G.CL rfl rfl ⟨rfl,by decide,by decide,rfl⟩ ?ne (λw h Y=>PySem.W.km_in_of Y) (λw h Y=>⟨km_tabs_of Y _ ?m1,km_tabs_of Y _ ?m2⟩) ?ht ?hKP ?hu ?hKU ?F
 case m1=>exact aA _ (aF ..)
 case m2=>exact aF ..
 case ne=>decide
 case ht=>exact λp=>by kernel_rfl
 case hKP=>exact λp=>by kernel_rfl
 case hu=>exact λp=>by kernel_rfl
 case hKU=>exact λp=>by kernel_rfl
 case F=>
  intro w mg fa h KX Gl hmg ht hu;have T:G.Tx (L2.LY KX):=by
   dsimp only [L2.LY]
   apply G.Tx.mk<;>first | (refine' Mi.zew ?a ?l ?c ?k;(case a=>k_is);(case l=>k_is);(case c=>k_is);(case k=>k_is)) | (refine' Mi.zdO ?a;(case a=>k_is)) | k_is|kernel_rfl
  exact G.all_mk KX Gl hmg T ht hu
