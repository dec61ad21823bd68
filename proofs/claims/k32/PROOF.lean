import PyProof.Rows.All
import Wide.All
import OpenK.AllK
import Lean
import PySem.Challenge.RW_nearkinds_k32_mixes_by_their_worths
set_option compiler.extract_closed false
set_option tactic.hygienic false
set_option genSizeOf false
set_option genInjectivity false
noncomputable section
open PySem.W (Frag)
open List (all_append all_cons all_map any_cons any_eq_true drop_length ext_getElem? filter_append filter_nil find?_cons flatMap_cons flatMap_nil forIn_cons forIn_nil getElem_inj getElem_map getElem_range length_filter_le length_reverse map_drop map_nil mem_cons mem_filter mem_map mem_of_getElem? nodup_range of_mem_zip pairwise_map range'_succ range_eq_range' sum_append sum_cons take_append_drop take_length take_zero)
open Nat (add_comm le_add_right lt_trans mul_comm ne_of_gt sub_self succ_mul zero_add zero_le)
open Int (emod_nonneg mul_nonneg mul_pos zero_mul)
open Bool (false_eq_true not_eq_true')
open Option (getD_none isSome_some)
open Array (length_toList)
open PySem.W (CodeHd callWith_K cellsFrom_some codeHdIn codeHd_of_K codeIn envX fnOf hideAll hideAll_none hideAll_size instObj keepIn kitAny kitOne kitx_bool kitx_dict kitx_float kitx_int kitx_list kitx_none kitx_str kitx_tuple kla_callFunE kla_codeExpr kla_fn kla_obj km_tabs_of lookIn methodObj mg_of nsIn of_hideAll plainGet tabIn tabObj)
open PySem.F (args_tuple_add_2 entry_tuple_add slot_tuple_add)
abbrev aa:=@List.getD_eq_getElem?_getD
abbrev ae:=@List.getElem?_eq_getElem
abbrev af:=@List.length_map
abbrev ag:=@PySem.Heap.get?_push_of_some
abbrev ah:=@List.getElem?_append_left
abbrev ai:=@if_pos
abbrev aj:=@if_neg
abbrev ak:=@Bool.and_eq_true
abbrev ao:=@Nat.le_refl
abbrev aq:=@decide_eq_true_iff
abbrev ar:=@List.getElem?_append_right
abbrev au:=@List.length_append
abbrev av:=@List.getElem?_set_self
abbrev aw:=@List.getElem?_set_ne
abbrev ax:=@decide_eq_true
abbrev ay:=@List.getElem?_map
abbrev az:=@List.getElem?_eq_none
abbrev aA:=@List.mem_cons_of_mem
abbrev aB:=@Int.toNat_natCast
abbrev aC:=@Option.some.inj
abbrev aD:=@PySem.Heap.get?_push_size
abbrev aE:=@decide_eq_false
abbrev aF:=@List.length_range
abbrev aG:=@List.mem_cons_self
abbrev aH:=@Bool.false_ne_true
abbrev aI:=@List.size_toArray
abbrev aJ:=@Nat.lt_of_lt_of_le
abbrev aK:=@List.getElem_mem
abbrev aL:=@beq_iff_eq
abbrev aM:=@PySem.Heap.lt_size
abbrev aN:=@List.map_append
abbrev aO:=@Nat.ne_of_lt
abbrev aP:=@List.append_assoc
abbrev aQ:=@List.getElem?_range
abbrev aR:=@List.mem_append_right
abbrev aS:=@List.map_cons
abbrev aT:=@Nat.lt_irrefl
abbrev aU:=@List.length_singleton
abbrev aV:=@PySem.W.mg_none_of
abbrev aW:=@List.map_map
abbrev aX:=@List.append_nil
abbrev aY:=@List.all_eq_true
abbrev aZ:=@List.take_of_length_le
abbrev a3:=@Bool.or_eq_true
abbrev a4:=@Nat.le_trans
abbrev a5:=@Int.eq_ofNat_of_zero_le
abbrev a6:=@List.length_take
abbrev a7:=@List.getElem_of_mem
abbrev a8:=@List.flatten_cons
abbrev a9:=@List.ext_getElem
abbrev ba:=@List.replicate_succ
abbrev bb:=@List.filterMap_cons
abbrev bc:=@List.length_cons
abbrev bf:=@List.range_succ
abbrev bg:=@List.getElem?_replicate
abbrev bh:=@List.mem_of_mem_drop
abbrev bj:=@Nat.lt_succ_of_lt
abbrev bo:=@List.map_congr_left
abbrev bp:=@PySem.Heap.size_push
abbrev bq:=@List.length_replicate
abbrev br:=@PySem.Heap.get?_update_other
abbrev bt:=@List.mem_append_left
abbrev bw:=@List.length_drop
abbrev bA:=@Nat.lt_succ_self
abbrev bB:=@beq_self_eq_true
abbrev bC:=@Nat.mul_le_mul
abbrev bD:=@PySem.W.kia_one
abbrev bE:=@List.set_append_right
abbrev bF:=@List.length_set
abbrev bG:=@List.not_mem_nil
abbrev bH:=@List.lookup_cons
abbrev bI:=@List.countP_cons
abbrev bJ:=@PySem.W.hideAll_get
abbrev bK:=@List.reverse_cons
abbrev bL:=@Nat.le_of_lt
abbrev bM:=@Int.emod_lt_of_pos
abbrev bN:=@List.nil_append
abbrev bP:=@List.flatMap_append
abbrev bQ:=List (List Int)
abbrev bR:=List Int
abbrev bS:=List PySem.Value
abbrev bU:=List PySem.Addr
abbrev bV:=List (PySem.Addr×PySem.Obj)
abbrev bW:=List Nat
abbrev bX:=List PySem.Str
abbrev bY:=PySem.Value->PySem.Shared->Prop
abbrev bZ:=List PySem.Expr
abbrev b0:=PySem.Str->Option PySem.Value
abbrev b8:=List PySem.Env
abbrev b9:=List (PySem.Str×PySem.Addr)
abbrev cb:=List PySem.Keyword
abbrev cf:=Option PySem.Addr
abbrev cg:=List PySem.Stmt
abbrev cj:=@PySem.wpAny_bind
abbrev cn:=@PySem.wpAny_pure
abbrev cu:=@List.getElem?_eq_some_iff
abbrev cw:=@List.mem_cons
abbrev cy:=@List.all_eq_true
abbrev cm:=@List.mem_range
abbrev cx:=@List.mem_map
abbrev cz:=@List.mem_singleton
abbrev cA:=@List.mem_append
set_option Elab.async false
set_option linter.all false
set_option maxRecDepth 1000000
set_option maxHeartbeats 4000000
variable {XP:(PySem.Str->Option PySem.Value)->PySem.Heap->Prop}{D Pt a b f:PySem.Addr}{oR:Array (Option PySem.Value)}{op:PySem.CmpOp}{env:PySem.Env}{e oI o8 tg:PySem.Expr}{base h h':PySem.Heap}{o6:List (PySem.Addr×PySem.Obj)}{t:bQ}{oM:List (PySem.Str×PySem.Addr)}{fp φ:List PySem.Addr}{gens gs:List PySem.Comprehension}{oO ifs:List PySem.Expr}{ns:bR}{cap:bW}{body:List PySem.Stmt}{N:List PySem.Str}{oE us:List PySem.Value}{M:PySem.Model}{i kk n t':Nat}{c:Nat->Nat->Bool}{oH oD p o7 oG:PySem.Pos}{P:PySem.Program}{sc scope:PySem.Scope}{s':PySem.Shared}{qual x:PySem.Str}{mg:PySem.Str->Option PySem.Value}{α:Type}{u:PySem.Value}{E Q:PySem.Value->PySem.Shared->Prop}{w:PySem.World}
namespace L2
open PySem PySem.Spec PyProof.Rows
abbrev Key:=Sum Int Str
def JU:Key->Value->Bool
 |.inl k,v=>Value.isInt k v|.inr x,v=>Value.isStrOf x v
noncomputable def cC (w:World):Key->Int
 |.inl k=>hashInt k|.inr x=>hashStr w x
theorem ZU:∀{k:Key}{v:Value},JU k v=true->(∃i t,k=Sum.inl i/\v=Value.int i t)∨(∃x t,k=Sum.inr x/\v=Value.str x t)
 |.inl i,v,h=>by obtain⟨t,e⟩:=Value.isInt_shape (k:=i) (v:=v) h;exact .inl ⟨i,t,rfl,e⟩
 |.inr x,v,h=>by obtain⟨t,e⟩:=Value.isStrOf_shape (x:=x) (v:=v) h;exact .inr ⟨x,t,rfl,e⟩
def Dq (i:Int)(t:Tok):JU (.inl i) (.int i t)=true:=by simp[JU,Value.isInt]
def DI (x:Str)(t:Tok):JU (.inr x) (.str x t)=true:=by simp[JU,Value.isStrOf]
def cD (a b:Int):decide ((Sum.inl a:Key)=Sum.inl b)=(a==b):=by
 by_cases e:a=b
 ·subst e;simp
 ·have h:¬(Sum.inl a:Key)=Sum.inl b:=λq=>e (Sum.inl.inj q)
  rw[aE h];exact(beq_eq_false_iff_ne.mpr e).symm
def cF (a b:Str):decide ((Sum.inr a:Key)=Sum.inr b)=decide (a=b):=by
 by_cases e:a=b
 ·subst e;simp
 ·have h:¬(Sum.inr a:Key)=Sum.inr b:=λq=>e (Sum.inr.inj q)
  rw[aE h,aE e]
def cG (a:Int)(b:Str):decide ((Sum.inl a:Key)=Sum.inr b)=false:=aE (λq=>nomatch q)
def cH (a:Str)(b:Int):decide ((Sum.inr a:Key)=Sum.inl b)=false:=aE (λq=>nomatch q)
def kQ (p:Program)(w:World):PySem.KeyKind p w Key where
 is:=JU
 hash:=cC w
 inj:=λv a b f c=>by
  rcases ZU f with ⟨i,t,rfl,rfl⟩|⟨x,t,rfl,rfl⟩
  ·rcases ZU c with ⟨j,u,rfl,e⟩|⟨y,u,rfl,e⟩
   ·injection e with E _;rw[E]
   ·exact nomatch e
  ·rcases ZU c with ⟨j,u,rfl,e⟩|⟨y,u,rfl,e⟩
   ·exact nomatch e
   ·injection e with E _;rw[E]
 byValue:=λk v h=>by rcases ZU h with ⟨i,t,rfl,rfl⟩|⟨x,t,rfl,rfl⟩<;>rfl
 pyHash:=λH h=>by
  rcases ZU H with ⟨i,t,rfl,rfl⟩|⟨x,t,rfl,rfl⟩
  ·exact wpAny_pyHash_int h
  ·exact wpAny_pyHash_str h
 eqBool:=λd H h=>by
  rcases ZU d with ⟨i,t,rfl,rfl⟩|⟨x,t,rfl,rfl⟩
  ·rcases ZU H with ⟨j,u,rfl,rfl⟩|⟨y,u,rfl,rfl⟩
   ·rw[cD]at h;exact wpAny_eqBool_int h
   ·rw[cG]at h;exact SeqAt.EqAt.int_str i t y u _ _ _ _ h
  ·rcases ZU H with ⟨j,u,rfl,rfl⟩|⟨y,u,rfl,rfl⟩
   ·rw[cH]at h;exact SeqAt.EqAt.str_int x t j u _ _ _ _ h
   ·rw[cF]at h;exact wpAny_eqBool_str h
 «strs»:=λk x t v h=>by
  rcases ZU h with ⟨i,u,rfl,e⟩|⟨y,u,rfl,e⟩
  ·exact nomatch e
  ·injection e with E _
   subst E;cases v<;>rfl
def Er (p:Program)(w:World)(k:Key)(v:Value):(kQ p w).is k v=JU k v:=rfl
def F5 (p:Program)(w:World)(i:Int)(t:Tok):(kQ p w).is (.inl i) (.int i t)=true:=Dq i t
def FX (p:Program)(w:World)(x:Str)(t:Tok):(kQ p w).is (.inr x) (.str x t)=true:=DI x t
inductive V where
 |non|bl (b:Bool)|int (i:Int)|str (x:Str)|byt (b:Array UInt8)|flt (b:UInt64)|ref (a:Addr)|ty (n:String)
 deriving DecidableEq
def RelV:V->Value->Prop
 |.non,u=>u=Value.none|.bl b,u=>u=Value.bool b|.int i,u=>∃t,u=Value.int i t|.str x,u=>∃t,u=Value.str x t|.byt b,u=>∃t,u=Value.bytes b t|.flt b,u=>∃t,u=Value.float b t|.ref a,u=>u=Value.ref a|.ty n,u=>u=Value.type n
abbrev Vals:List V->List Value->Prop:=Paired RelV
theorem Vals.length {x:List V}(r:Vals x us):x.length=us.length:=Paired.length r
theorem Vals.get:∀{X:List V}{U:bS}{i:Nat}{x:V},Vals X U->X[i]? =some x->∃u,U[i]? =some u/\RelV x u
 |_,_,_,_,.nil,e=>by simp at e|_,_,0,_,.cons r _,e=>by simp at e;subst e;exact⟨_,rfl,r⟩|_,_,i+1,x,.cons _ t,e=>by
  obtain⟨u,H,h⟩:=Vals.get (i:=i) (x:=x) t (by simpa using e)
  exact⟨u,by simpa using H,h⟩
theorem Vals.set {x:V}(r:RelV x u):∀{X:List V}{U:bS}(i:Nat),Vals X U->Vals (X.set i x) (U.set i u)
 |_,_,_,.nil=>.nil|_,_,0,.cons _ t=>.cons r t|_,_,i+1,.cons q t=>.cons q (Vals.set r i t)
theorem Vals.append:∀{x y:List V}{u w:bS},Vals x u->Vals y w->Vals (x++y) (u++w)
 |_,_,_,_,.nil,s=>s|_,_,_,_,.cons r t,s=>.cons r (Vals.append t s)
theorem Vals.take:∀{x:List V}{u:bS}(n:Nat),Vals x u->Vals (x.take n) (u.take n)
 |_,_,0,_=>.nil|_,_,_+1,.nil=>.nil|_,_,n+1,.cons r t=>.cons r (Vals.take n t)
theorem Vals.drop:∀{x:List V}{u:bS}(n:Nat),Vals x u->Vals (x.drop n) (u.drop n)
 |_,_,0,r=>r|_,_,_+1,.nil=>.nil|_,_,n+1,.cons _ t=>Vals.drop n t
def Vals.none_of:∀{x:List V}{u:bS}{i:Nat},Vals x u->x[i]? =none->u[i]? =none:=λ {x u i} r e=>by have H:=r.length;have h:x.length<=i:=List.getElem?_eq_none_iff.mp e;exact List.getElem?_eq_none_iff.mpr (by lia)
def QI:Option V->Option Value->Prop
 |some v,some u=>RelV v u|none,none=>True|_,_=>False
def KV {a:Type}:List (a×V)->List (a×Value)->Prop:=Paired λ(p:a×V) (q:a×Value)=>p.1=q.1/\RelV p.2 q.2
def kV:Key->V
 |.inl i=>.int i|.inr x=>.str x
inductive HO where
 |lst (xs:List V)
 |tup (xs:List V)
 |dK (kvs:List (Key×V))|dT (kvs:List (List Key×V))
 |set (S:Int->Bool) (n:Nat)
 |ins (C dx:Addr) (fs:List (Str×V))
 |own (x:Addr)
 |xd (fs:List (Str×V))
 |met (f x:Addr)
 |rng (lo hi:Int)
 |frz (o:Obj) (u:HO)
 |tbl (ps:Array Value)
 |ext (φ:Heap->Prop)
abbrev Hp:=Addr->Option HO
noncomputable def upd (H:Hp)(a:Addr)(o:HO):Hp:=λb=>if b=a then some o else H b
def jY {H:Hp}{o:HO}:upd H a o a=some o:=by unfold upd;rw[ai rfl]
def qx {H:Hp}{o:HO}(h:b≠a):upd H a o b=H b:=by unfold upd;rw[aj h]
def YY {H:Hp}{o u:HO}(h:H a=some o)(c:H b=some u)(d:o≠u):a≠b:=by intro e;subst e;rw[h]at c;exact d (aC c)
def wq {H:Hp}{o:HO}(h:H a=some o)(c:H b=none):a≠b:=by intro e;subst e;rw[h]at c;cases c
def Ja (h:Heap)(a:Addr)(i:Array Value):Prop:=∃o,h.get? a=some o/\(o.cls=.type "tuple" /\ o.dict=none)/\∃n,o.data=.seq i n
def Ja.tup {h:Heap}{a:Addr}{i:Array Value}(x:Ja h a i):IsTup h a i:=let ⟨o,e,c,d⟩:=x;⟨o,e,c.1,d⟩
def Ja.new (h:Heap)(i:Array Value):Ja (h.push { cls:=.type "tuple",data:=.seq i }) h.objs.size i:=⟨_,aD h rfl,⟨rfl,rfl⟩,0,rfl⟩
section
variable (P:Program)(w:World)
def qZ (H:Hp)(h:Heap)(a:Addr):HO->Prop
 |.lst X=>X.length<=sizeLine/\∃(oE:bS) (n:Nat),Vals X oE/\h.get? a=some { cls:=.type "list",data:=.seq oE.toArray n }
 |.tup X=>X.length<=sizeLine/\∃oE:bS,Vals X oE/\Ja h a oE.toArray|.dK K=>K.length<=sizeLine/\(a==sysModules)=false/\∃c,KV K c/\h.DictOf (kQ P w) a c|.dT K=>K.length<=sizeLine/\(a==sysModules)=false/\∃X:List (List Key×Addr×Value),
   Paired (λ(p:List Key×V) (q:List Key×Addr×Value)=>p.1=q.1/\H q.2.1=some (.tup (p.1.map kV))/\RelV p.2 q.2.2) K X/\
   ∃o e E,h.get? a=some o/\o.ExactDict/\o.data=.dict e E/\e.toList=X.map (entryOfKey (tupleKind (kQ P w)))/\(X.map (·.1)).Nodup
 |.set S n=>h.SetOf (intKind P w) a S n|.ins C d fs=>H d=some (.own a)/\fs.length<=1000/\d≠a/\h.get? a=some (instObj C d)/\
   ∃M,h.Ns1 d M/\(∀f,QI (fs.lookup f) (M f))/\PySem.Within M (fs.map (·.1))
 |.own _=>∃o,h.get? a=some o|.xd fs=>∃M,h.Ns1 a M/\∀f,QI (fs.lookup f) (M f)|.rng l i=>∃t u v,h.get? a=some { cls:=.type "range",data:=.fields #[.int l t,.int i u,.int 1 v] }
 |.frz o u=>h.get? a=some o/\qZ H h a u|.tbl ps=>h.get? a=some { cls:=.none,data:=.fields ps }|.met f x=>h.get? a=some (methodObj (.ref f) (.ref x))|.ext b=>b h/\(∃o,h.get? a=some o)/\∀j g:Heap,b j->(∀o,j.get? a=some o->g.get? a=some o)->b g
def jj (H:Hp)(h:Heap):Prop:=∀a o,H a=some o->qZ P w H h a o
end
section
variable {H H':Hp}{o:HO}
theorem qZ.lt (x:qZ P w H h a o):a<h.objs.size:=by
 cases o with|lst X=>obtain⟨_,_,_,_,e⟩:=x;exact aM e|tup X=>obtain⟨_,_,_,p⟩:=x;exact p.tup.lt|dK K=>obtain⟨_,_,_,_,o,_,_,e,_⟩:=x;exact aM e|dT K=>obtain⟨_,_,_,_,o,_,_,e,_⟩:=x;exact aM e|set S n=>obtain⟨o,_,_,_,e,_⟩:=x;exact aM e|ins C d fs=>obtain⟨_,_,_,e,_⟩:=x;exact aM e|own y=>obtain⟨_,e⟩:=x;exact aM e|xd fs=>obtain⟨_,⟨_,_,_,e,_⟩,_⟩:=x;exact aM e|rng l i=>obtain⟨_,_,_,e⟩:=x;exact aM e|frz ob u=>obtain⟨e,_⟩:=x;exact aM e|tbl ps=>exact aM (show h.get? a=some _ from x)|met f y=>exact aM (show h.get? a=some _ from x)|ext b=>obtain⟨_,⟨_,e⟩,_⟩:=x;exact aM e
theorem Paired.mapP {c:Type}{F G:α->c->Prop}:∀{L:List α}{l:List c},Paired F L l->(∀a b,F a b->G a b)->Paired G L l
 |_,_,.nil,_=>.nil|_,_,.cons r t,f=>.cons (f _ _ r) (Paired.mapP t f)
def qZ.stay (x:qZ P w H h a o)(k:∀b u,(b=a∨H b=some (.own a))->h.get? b=some u->h'.get? b=some u)
  (l:∀b,H b=some (.own a)->H' b=some (.own a))(Q:∀b X,H b=some (.tup X)->H' b=some (.tup X)):qZ P w H' h' a o:=by
 induction o with
 |lst X=>obtain⟨z,i,n,r,e⟩:=x;exact⟨z,i,n,r,k _ _ (.inl rfl) e⟩|tup X=>obtain⟨z,i,r,ob,e,c⟩:=x;exact⟨z,i,r,ob,k _ _ (.inl rfl) e,c⟩|dK K=>obtain⟨z,y,L,r,ob,E,g,e,c⟩:=x;exact⟨z,y,L,r,ob,E,g,k _ _ (.inl rfl) e,c⟩|dT K=>
  obtain⟨z,y,X,r,ob,E,g,e,c⟩:=x;exact⟨z,y,X,Paired.mapP r λp q z=>⟨z.1,Q _ _ z.2.1,z.2.2⟩,ob,E,g,k _ _ (.inl rfl) e,c⟩
 |set S n=>obtain⟨ob,E,g,t,e,c⟩:=x;exact⟨ob,E,g,t,k _ _ (.inl rfl) e,c⟩|ins C D fs=>
  obtain⟨d,z,N,e,M,⟨j,E,g,A,c⟩,r⟩:=x;exact⟨l _ d,z,N,k _ _ (.inl rfl) e,M,⟨j,E,g,k _ _ (.inr d) A,c⟩,r⟩
 |own y=>obtain⟨ob,e⟩:=x;exact⟨ob,k _ _ (.inl rfl) e⟩|xd fs=>obtain⟨M,⟨j,E,g,e,c⟩,r⟩:=x;exact⟨M,⟨j,E,g,k _ _ (.inl rfl) e,c⟩,r⟩|rng U B=>obtain⟨t,u,v,e⟩:=x;exact⟨t,u,v,k _ _ (.inl rfl) e⟩|frz ob u I=>obtain⟨e,q⟩:=x;exact⟨k _ _ (.inl rfl) e,I q⟩|tbl ps=>
  have e:h.get? a=some { cls:=.none,data:=.fields ps }:=x;show h'.get? a=some { cls:=.none,data:=.fields ps };exact k a _ (.inl rfl) e
 |met f y=>
  have e:h.get? a=some (methodObj (.ref f) (.ref y)):=x;show h'.get? a=some (methodObj (.ref f) (.ref y));exact k a _ (.inl rfl) e
 |ext T=>obtain⟨p,⟨o,e⟩,J⟩:=x;exact⟨J _ _ p λo q=>k _ _ (.inl rfl) q,⟨o,k _ _ (.inl rfl) e⟩,J⟩
theorem jj.lt (x:jj P w H h)(e:H a=some o):a<h.objs.size:=(x a o e).lt
def jj.fresh (x:jj P w H h)(e:h.objs.size<=a):H a=none:=by
 cases q:H a with|none=>rfl|some u=>exact absurd (aJ (x.lt q) e) (aT _)
def jj.kept (x:jj P w H h)(k:∀b u,h.get? b=some u->h'.get? b=some u):jj P w H h':=λa o e=>
 (x a o e).stay (λb u _ q=>k b u q) (λ_ q=>q) λ_ _ q=>q
def jj.laid (x:jj P w H h)(k:∀b u,h.get? b=some u->h'.get? b=some u)(p:h.objs.size<=a)(new:qZ P w (upd H a o) h' a o):jj P w (upd H a o) h':=λb u e=>by
 have n:=x.fresh p
 by_cases d:b=a
 ·subst d;rw[jY]at e;cases e;exact new
 ·rw[qx d]at e
  exact(x b u e).stay (λc v _ q=>k c v q) (λc q=>by rw[qx (wq q n)];exact q) λc X q=>by rw[qx (wq q n)];exact q
end
def Rd (H:Hp)(a:Addr)(u:HO):Prop:=H a=some u∨∃o,H a=some (.frz o u)
def Rd.ok {H:Hp}{u:HO}(r:Rd H a u)(x:jj P w H h):qZ P w H h a u:=by
 rcases r with r|⟨o,r⟩
 ·exact x a u r
 ·obtain⟨_,q⟩:=x a _ r
  exact q
def WQ:Option HO->Prop
 |some (.lst _)=>True|some (.dK _)=>True|some (.dT _)=>True|some (.set _ _)=>True|some (.ins _ _ _)=>True|some (.ext _)=>True|_=>False
section
variable {H:Hp}{x e:Addr}{o':HO}
def jj.write (ok:jj P w H h)(M:WQ (H x))(i:e=x∨H e=some (.own x))(k:∀b u,b≠e->h.get? b=some u->h'.get? b=some u)(o:∃u,h'.get? e=some u)
  (new:qZ P w (upd H x o') h' x o'):jj P w (upd H x o') h':=λb u q=>by
 have n:∀c y,H c=some (.own y)->c≠x:=λc y r z=>by subst z;rw[r]at M;exact M
 have N:∀c X,H c=some (.tup X)->c≠x:=λc X r z=>by subst z;rw[r]at M;exact M
 by_cases f:b=x
 ·subst f;rw[jY]at q;cases q;exact new
 ·rw[qx f]at q
  by_cases a:b=e
  ·have Q:H b=some (.own x):=by
    rcases i with z|z
    ·exact absurd (a.trans z) f
    ·rw[a];exact z
   rw[q]at Q;cases Q;obtain⟨v,g⟩:=o;exact⟨v,by rw[a];exact g⟩
  ·refine(ok b u q).stay (λc v d r=>k c v ?_ r) (λc r=>by rw[qx (n c b r)];exact r) λc X r=>by rw[qx (N c X r)];exact r
   rcases d with rfl|d
   ·exact a
   ·rintro rfl
    rcases i with z|z
    ·exact n c b d z
    ·rw[d]at z;cases z;exact f rfl
end
structure Un (fs ex:bU)(H H':Hp)(h h':Heap):Prop where
 keep:∀b o,h.get? b=some o->H b=none->b∉fs->b∉ex->h'.get? b=some o
 slot:∀b o,h.get? b=some o->H b=none->b∈fs->b∉ex->∃sl,h'.get? b=some { o with slots:=sl }
 free:∀b o,h.get? b=some o->H b=none->b∉ex->H' b=none
 there:∀b o,h.get? b=some o->b∉ex->∃o',h'.get? b=some o'
 tups:∀b xs,H b=some (.tup xs)->H' b=some (.tup xs)
 frzs:∀b o u,H b=some (.frz o u)->H' b=some (.frz o u)
 tbls:∀b ps,H b=some (.tbl ps)->∃more,H' b=some (.tbl (ps++more))
section
variable {fs ex:bU}{H H1:Hp}{h1:Heap}{x e:Addr}{o:HO}
def Un.any (u:Un fs ex H H1 h h1){ob:Obj}(q:h.get? b=some ob)(n:H b=none)(x:b∉ex):∃S,h1.get? b=some { ob with slots:=S }:=by
 by_cases a:b∈fs
 ·exact u.slot b ob q n a x
 ·exact⟨ob.slots,u.keep b ob q n a x⟩
def Un.kept (k:∀b u,h.get? b=some u->h'.get? b=some u):Un fs ex H H h h':=
 ⟨λb ob q _ _ _=>k b ob q,λb ob q _ _ _=>⟨ob.slots,k b ob q⟩,λ_ _ _ n _=>n,λb ob q _=>⟨ob,k b ob q⟩,λ_ _ q=>q,λ_ _ _ q=>q,λ_ ps q=>⟨#[],by rw[q];simp⟩⟩
def Un.refl:Un fs ex H H h h:=Un.kept λ_ _ q=>q
def Un.laid (k:∀b u,h.get? b=some u->h'.get? b=some u)(p:h.objs.size<=a)(c:H a=none):Un fs ex H (upd H a o) h h' where
 keep:=λb u q _ _ _=>k b u q
 slot:=λb u q _ _ _=>⟨u.slots,k b u q⟩
 free:=λb u q n _=>by rw[qx (aO (aJ (aM q) p))];exact n
 there:=λb u q _=>⟨u,k b u q⟩
 tups:=λb x q=>by rw[qx (wq q c)];exact q
 frzs:=λb u x q=>by rw[qx (wq q c)];exact q
 tbls:=λb ps q=>⟨#[],by rw[qx (wq q c),q];simp⟩
def Un.write (M:WQ (H x))(i:e=x∨H e=some (.own x))(k:∀b u,b≠e->h.get? b=some u->h'.get? b=some u)(c:∃u,h'.get? e=some u):Un fs ex H (upd H x o) h h':=by
 have d:∀b,H b=none->b≠x:=λb n z=>by subst z;rw[n]at M;exact M
 have f:∀b,H b=none->b≠e:=λb n z=>by
  subst z;rcases i with r|r
  ·exact d b n r
  ·rw[n]at r;cases r
 have g:∀b u,H b=some u->¬WQ (some u)->b≠x:=λb u q nm z=>by subst z;rw[q]at M;exact nm M
 refine⟨λb u q n _ _=>k b u (f b n) q,λb u q n _ _=>⟨u.slots,k b u (f b n) q⟩,λb u q n _=>by rw[qx (d b n)];exact n,λb u q _=>?_,
  λb X q=>by rw[qx (g b _ q λz=>z)];exact q,λb u X q=>by rw[qx (g b _ q λz=>z)];exact q,λb ps q=>⟨#[],by rw[qx (g b _ q λz=>z),q];simp⟩⟩
 by_cases a:b=e
 ·subst a;exact c
 ·exact⟨u,k b u a q⟩
end
noncomputable def Vn (h:Heap)(H:Hp):bU:=(List.range h.objs.size).filter λa=>(H a).isSome
def Z9 (h:Heap)(H:Hp):Heap:=hideAll h (Vn h H)
def EX (h:Heap)(H:Hp):(Z9 h H).objs.size=h.objs.size:=hideAll_size _ _
def CQ {H:Hp}{o:Obj}(e:h.get? b=some o)(n:H b=none):(Z9 h H).get? b=some o:=
 bJ _ e λa=>by have q:(H b).isSome=true:=(List.mem_filter.mp a).2;rw[n]at q;simp at q
def cI {H:Hp}{o:Obj}(e:(Z9 h H).get? b=some o):h.get? b=some o/\H b=none:=by
 have E:h.get? b=some o:=of_hideAll (Vn h H) e;refine⟨E,?_⟩;cases q:H b with
 |none=>rfl|some x=>
  have a:b∈Vn h H:=List.mem_filter.mpr ⟨cm.mpr (aM E),by simp[q]⟩
  have z:(Z9 h H).get? b=none:=hideAll_none (Vn h H) a;rw[z]at e;cases e
structure Mod (K:Frag)(mg:b0)(base:Heap):Prop where
 kin:K.In base
 glob:base.Ns mainGlobals mg
 blt:∃mb,base.Ns builtinsNs mb/\∀x:Str,x ≠ "__name__" -> mb x=bootBuiltins x
 nolimit:base.NoLimit
structure Cx where
 prog:Program
 w:World
 K:Frag
 mg:Str->Option Value
 base:Heap
 A:Around
 N:bX
 s0:Shared
 H0:Hp
 env:Env
 outer:b8
 stack:b8
 ex:bU
 fn:Str->Bool
 calm:Bool
 pn:bV
 xe:Value->Shared->Prop
def qJ (l:b8):bU:=l.filterMap (·.frame)
abbrev Cx.fs (X:Cx):bU:=qJ X.outer
def WO (S:Scope)(x:Str):Prop:=S.names.lookup x=some .local∨S.names.lookup x=some .cell∨S.names.lookup x=some .free
def Loc (S:Scope)(x:Str):Prop:=S.names.lookup x=some .local∨S.names.lookup x=some .cell
def Look (e:Env)(h:Heap)(m:b0)(x:Str)(u:Value):Prop:=
 (e.kindOf x=some .local/\m x=some u)∨((e.kindOf x=some .cell∨e.kindOf x=some .free)/\∃c,e.cells.lookup x=some c/\h.IsCell c (some u))
structure Cx.Ok (X:Cx):Prop where
 mod:Mod X.K X.mg X.base
 kind:X.env.scope.kind=.function
 glob:X.env.globals=mainGlobals
 blt:X.env.builtins=builtinsNs
 above:X.s0.heap.objs.size<=X.env.locals
 inj:∀x y c,X.env.cells.lookup x=some c->X.env.cells.lookup y=some c->x=y
 has:∀x,(X.env.kindOf x=some .cell∨X.env.kindOf x=some .free)->∃c,X.env.cells.lookup x=some c
 cab:∀x c,X.fn x=true->X.env.cells.lookup x=some c->X.s0.heap.objs.size<=c
 hd:X.calm=true->X.A.handled=none
 frames:X.A.frames=some X.stack
 stk:X.stack=X.outer∨(X.stack=X.env::X.outer/\X.env.frame=some X.env.locals)
 exf:∀b∈X.ex,b≠X.env.locals/\∀x c,X.env.cells.lookup x=some c->c≠b
 bs:∀b o,X.base.get? b=some o->X.s0.heap.get? b=some o/\X.H0 b=none
 bsz:X.base.objs.size<=X.s0.heap.objs.size
 noex:∀b o,X.base.get? b=some o->b∉X.ex
 exfs:∀b∈X.ex,b∉X.fs
 funs:X.s0.heap.FunFrames X.base X.outer
 frf:∀b∈X.fs,X.H0 b=none
structure Inv (X:Cx)(o6:bV)(σ:List (Option V))(H:Hp)(s:Shared):Prop where
 ok:X.Ok
 os:s.os=X.s0.os
 bare:AllBare s.gens
 base:Un X.fs X.ex X.H0 H X.s0.heap s.heap
 loc:∃m,s.heap.Ns X.env.locals m/\∀(i:Nat)(x:Str)(v:V),X.N[i]? =some x->σ[i]? =some (some v)->WO X.env.scope x->∃u,RelV v u/\Look X.env s.heap m x u
 cell:∀x c,X.env.cells.lookup x=some c->∃v,s.heap.IsCell c v
 free:H X.env.locals=none
 freeC:∀x c,X.env.cells.lookup x=some c->H c=none
 pin:∀p∈X.pn++o6,s.heap.get? p.1=some p.2/\H p.1=none/\p.1≠X.env.locals/\p.1∉X.fs/\∀v,p.2.data≠.cell v
 hok:jj X.prog X.w H s.heap
 len:σ.length=X.N.length
section
variable {X:Cx}{σ:List (Option V)}{H H':Hp}{s:Shared}
def Cx.Ok.nofr (ok:X.Ok){o:Obj}(e:X.base.get? b=some o):b∉X.fs:=λh=>by
 have:=(ok.funs.mem h).1
 rw[e]at this;cases this
theorem Inv.bs (I:Inv X o6 σ H s):∀b o,X.base.get? b=some o->s.heap.get? b=some o/\H b=none:=λb o e=>
 ⟨I.base.keep b o (I.ok.bs b o e).1 (I.ok.bs b o e).2 (I.ok.nofr e) (I.ok.noex b o e),I.base.free b o (I.ok.bs b o e).1 (I.ok.bs b o e).2 (I.ok.noex b o e)⟩
def Inv.bk (I:Inv X o6 σ H s):∀b o,X.base.get? b=some o->s.heap.get? b=some o:=λb o e=>(I.bs b o e).1
theorem Inv.mod (I:Inv X o6 σ H s):Mod X.K X.mg X.base:=I.ok.mod
def Inv.kIn (I:Inv X o6 σ H s):X.K.In s.heap:=I.ok.mod.kin.keeps I.bk
theorem Inv.lt (I:Inv X o6 σ H s):X.env.locals<s.heap.objs.size:=let ⟨_,h,_⟩:=I.loc;h.lt
def Inv.sz (I:Inv X o6 σ H s):X.s0.heap.objs.size<=s.heap.objs.size:=a4 I.ok.above (bL I.lt)
def Inv.nofs (I:Inv X o6 σ H s)(h:s.heap.objs.size<=a):a∉X.fs:=λc=>by obtain⟨_,o,b,_⟩:=I.ok.funs.mem c;exact absurd (aJ (aM b) (a4 I.sz h)) (aT _)
def Inv.cne (I:Inv X o6 σ H s):∀x c,X.env.cells.lookup x=some c->c≠X.env.locals:=λx c e z=>by obtain⟨v,o,b,d⟩:=I.cell x c e;obtain⟨m,⟨f,E,p,h,a,_⟩,_⟩:=I.loc;rw[z,h]at b;cases b;rw[a]at d;cases d
theorem Inv.funs (I:Inv X o6 σ H s):s.heap.FunFrames X.base X.outer:=by
 have all:∀(l:b8),(∀b∈qJ l,b∈X.fs)->X.s0.heap.FunFrames X.base l->s.heap.FunFrames X.base l:=by
  intro l
  induction l with
  |nil=>intro _ _;trivial|cons E r i=>
   intro c g;obtain⟨j,⟨L,o,n,p,f,q⟩,d⟩:=g;have a:L∈X.fs:=c L (by unfold qJ;rw[bb,n];exact aG)
   obtain⟨S,e⟩:=I.base.slot L o f (I.ok.frf L a) a λz=>I.ok.exfs L z a;exact⟨j,⟨L,_,n,p,e,q⟩,i (λb h=>c b (by unfold qJ;rw[bb,n];exact aA _ h)) d⟩
 exact all X.outer (λ_ h=>h) I.ok.funs
theorem Inv.stack (I:Inv X o6 σ H s):s.heap.FunFrames X.base X.stack:=by
 rcases I.ok.stk with e|⟨e,hf⟩
 ·rw[e];exact I.funs
 ·rw[e]
  obtain⟨m,h,_⟩:=I.loc;refine .cons (by rw[I.ok.kind];decide) hf h ?_ I.funs
  exact Heap.get?_none_of_le (a4 I.ok.bsz I.ok.above)
def Inv.stkSub (I:Inv X o6 σ H s):∀b∈qJ X.stack,b∈X.env.locals::X.fs:=λb h=>by
 rcases I.ok.stk with e|⟨e,hf⟩
 ·rw[e]at h;exact aA _ h
 ·rw[e]at h
  unfold qJ at h;rw[bb,hf]at h;exact h
def Inv.stkFree (I:Inv X o6 σ H s):∀b∈qJ X.stack,H b=none:=λb h=>by
 rcases cw.mp (I.stkSub b h) with e|h
 ·rw[e];exact I.free
 ·obtain⟨_,o,a,_⟩:=I.ok.funs.mem h
  exact I.base.free b o a (I.ok.frf b h) λz=>I.ok.exfs b z h
def Inv.step {g':Array GenState}{d':Drawn}{ch:bU}(I:Inv X o6 σ H s)
  (a:∀b∈ch,(b∈X.ex∨X.s0.heap.objs.size<=b)/\b≠X.env.locals/\(∀x c,X.env.cells.lookup x=some c->c≠b)/\∀p∈X.pn++o6,p.1≠b)
  (keep:∀b o,b≠X.env.locals->b∉X.fs->b∉ch->s.heap.get? b=some o->H b=none->h'.get? b=some o)
  (T:∀b o,b≠X.env.locals->b∈X.fs->b∉ch->s.heap.get? b=some o->H b=none->∃t,h'.get? b=some { o with slots:=t })(M:∀b o,b∉ch->s.heap.get? b=some o->H b=none->H' b=none)
  (there:∀b o,b∉ch->s.heap.get? b=some o->∃o',h'.get? b=some o')
  (U:∀b Q,H b=some (.tup Q)->H' b=some (.tup Q))(frzs:∀b o u,H b=some (.frz o u)->H' b=some (.frz o u))(Y:∀b ps,H b=some (.tbl ps)->∃Z,H' b=some (.tbl (ps++Z)))
  (ns:∀m,s.heap.Ns X.env.locals m->h'.Ns X.env.locals m)(hok:jj X.prog X.w H' h')(J:AllBare g'):
  Inv X o6 σ H' { s with heap:=h',gens:=g',drawn:=d',toks:=t' }:=by
 have L:∀b o,X.s0.heap.get? b=some o->b≠X.env.locals:=λb o e=>aO (aJ (aM e) I.ok.above);have C:∀b o,X.s0.heap.get? b=some o->b∉X.ex->b∉ch:=λb o e h f=>by
  rcases(a b f).1 with z|z
  ·exact h z
  ·exact absurd (aJ (aM e) z) (aT _)
 have P:∀x c,X.env.cells.lookup x=some c->∀v,s.heap.IsCell c v->h'.IsCell c v:=λx c e v ⟨o,g,hd⟩=>by
  have N:c∉ch:=λz=>(a c z).2.2.1 x c e rfl
  by_cases B:c∈X.fs
  ·obtain⟨t,q⟩:=T c o (I.cne x c e) B N g (I.freeC x c e)
   exact⟨_,q,hd⟩
  ·exact⟨o,keep c o (I.cne x c e) B N g (I.freeC x c e),hd⟩
 refine⟨I.ok,I.os,J,⟨λb o e n f h=>?_,λb o e n f h=>?_,λb o e n h=>?_,λb o e h=>?_,λb Q e=>U b Q (I.base.tups b Q e),λb o Q e=>frzs b o Q (I.base.frzs b o Q e),λb ps e=>?_⟩,?_,λx c e=>?_,?_,λx c e=>?_,λp A=>?_,hok,I.len⟩
 ·exact keep b o (L b o e) f (C b o e h) (I.base.keep b o e n f h) (I.base.free b o e n h)
 ·obtain⟨t,E⟩:=I.base.slot b o e n f h
  obtain⟨S,j⟩:=T b _ (L b o e) f (C b o e h) E (I.base.free b o e n h);exact⟨S,j⟩
 ·obtain⟨o',E⟩:=I.base.there b o e h
  exact M b o' (C b o e h) E (I.base.free b o e n h)
 ·obtain⟨o',E⟩:=I.base.there b o e h
  exact there b o' (C b o e h) E
 ·obtain⟨m1,E⟩:=I.base.tbls b ps e
  obtain⟨m2,j⟩:=Y b _ E;exact⟨m1++m2,by rw[j,Array.append_assoc]⟩
 ·obtain⟨m,hn,D⟩:=I.loc
  refine⟨m,ns m hn,λi x v E j K=>?_⟩;obtain⟨u,r,l⟩:=D i x v E j K;refine⟨u,r,?_⟩;rcases l with l|⟨k,c,e,z⟩
  ·exact .inl l
  ·exact .inr ⟨k,c,e,P x c e _ z⟩
 ·obtain⟨v,z⟩:=I.cell x c e
  exact⟨v,P x c e v z⟩
 ·obtain⟨m,⟨o,_,_,g,_⟩,_⟩:=I.loc
  exact M _ o (λz=>(a _ z).2.1 rfl) g I.free
 ·obtain⟨v,o,g,hd⟩:=I.cell x c e
  exact M c o (λz=>(a c z).2.2.1 x c e rfl) g (I.freeC x c e)
 ·obtain⟨e,n,ne,y,d⟩:=I.pin p A
  have N:p.1∉ch:=λz=>(a p.1 z).2.2.2 p A rfl;exact⟨keep p.1 p.2 ne y N e n,M p.1 p.2 N e n,ne,y,d⟩
def Inv.un (I:Inv X o6 σ H s)(u:Un X.fs [] H H' s.heap h')(i:jj X.prog X.w H' h'):Inv X o6 σ H' { s with heap:=h',toks:=t' }:=by
 obtain⟨m,⟨o,g,p,d,r⟩,_⟩:=id I.loc;obtain⟨S,L⟩:=u.any d I.free (by simp)
 exact I.step (g':=s.gens) (d':=s.drawn) (ch:=[]) (λ_ z=>nomatch z) (λb o _ a _ e n=>u.keep b o e n a (by simp)) (λb o _ a _ e n=>u.slot b o e n a (by simp)) (λb o _ e n=>u.free b o e n (by simp)) (λb o _ e=>u.there b o e (by simp)) u.tups u.frzs u.tbls (λM j=>by obtain⟨l,E,c,h,f⟩:=j;rw[d]at h;cases h;exact⟨_,E,c,L,f⟩) i I.bare
def Inv.call {g':Array GenState}{d':Drawn}{ch:bU}(I:Inv X o6 σ H s)(u:Un (qJ X.stack) ch H H' s.heap h')(v:jj X.prog X.w H' h')(j:AllBare g')
  (d:∀b∈ch,(b∈X.ex∨X.s0.heap.objs.size<=b)/\b≠X.env.locals/\(∀x c,X.env.cells.lookup x=some c->c≠b)/\∀p∈X.pn++o6,p.1≠b):
  Inv X o6 σ H' { s with heap:=h',gens:=g',drawn:=d',toks:=t' }:=by
 obtain⟨m,⟨o,q,t,g,r⟩,_⟩:=id I.loc;obtain⟨S,L⟩:=u.any g I.free λz=>(d _ z).2.1 rfl;exact I.step (ch:=ch) d (λb o L l h e n=>u.keep b o e n (λz=>(cw.mp (I.stkSub b z)).elim L l) h) (λb o _ _ h e n=>u.any e n h) (λb o h e n=>u.free b o e n h) (λb o h e=>u.there b o e h) u.tups u.frzs u.tbls (λM y=>by obtain⟨A,E,f,a,i⟩:=y;rw[g]at a;cases a;exact⟨_,E,f,L,i⟩) v j
def Inv.turned {i:Addr}(I:Inv X o6 σ H s)(k:∀b o,b≠i->s.heap.get? b=some o->h'.get? b=some o)(j:H i=none)(L:i≠X.env.locals)
  (w:i∈X.ex∨X.s0.heap.objs.size<=i)(t:∀x c,X.env.cells.lookup x=some c->c≠i)(f:∀p∈X.pn++o6,p.1≠i):Inv X o6 σ H { s with heap:=h',toks:=t' }:=by
 have N:∀b u,H b=some u->b≠i:=λb u e z=>by rw[z,j]at e;cases e
 refine I.step (g':=s.gens) (d':=s.drawn) (ch:=[i]) (λb d=>?_) (λb o _ _ h e _=>k b o (λz=>h (by simp[z])) e) (λb o _ _ h e _=>⟨o.slots,k b o (λz=>h (by simp[z])) e⟩) (λ_ _ _ _ n=>n)
  (λb o h e=>⟨o,k b o (λz=>h (by simp[z])) e⟩) (λ_ _ e=>e) (λ_ _ _ e=>e) (λb ps e=>⟨#[],by rw[e];simp⟩) (λm l=>?_) (λb u e=>?_) I.bare
 ·have e:b=i:=by simpa using d
  subst e;exact⟨w,L,t,f⟩
 ·obtain⟨o,E,g,a,r⟩:=l
  exact⟨o,E,g,k _ o (Ne.symm L) a,r⟩
 ·refine(I.hok b u e).stay (λc v h q=>k c v ?_ q) (λ_ q=>q) λ_ _ q=>q
  rcases h with z|z
  ·rw[z];exact N b u e
  ·exact N c _ z
def Inv.tok (I:Inv X o6 σ H s)(t:Nat):Inv X o6 σ H { s with toks:=t }:=I.un (h':=s.heap) (t':=t) Un.refl I.hok
theorem Inv.kept (I:Inv X o6 σ H s)(k:∀b u,s.heap.get? b=some u->h'.get? b=some u):Inv X o6 σ H { s with heap:=h',toks:=t' }:=I.un (Un.kept k) (I.hok.kept k)
theorem Inv.laid {o:HO}(I:Inv X o6 σ H s)(k:∀b u,s.heap.get? b=some u->h'.get? b=some u)(h:s.heap.objs.size<=a)(new:qZ X.prog X.w (upd H a o) h' a o):
  Inv X o6 σ (upd H a o) { s with heap:=h',toks:=t' }:=I.un (Un.laid k h (I.hok.fresh h)) (I.hok.laid k h new)
theorem Inv.write {x e:Addr}{o:HO}(I:Inv X o6 σ H s)(M:WQ (H x))(a:e=x∨H e=some (.own x))(k:∀b u,b≠e->s.heap.get? b=some u->h'.get? b=some u)(h:∃u,h'.get? e=some u)
  (new:qZ X.prog X.w (upd H x o) h' x o):Inv X o6 σ (upd H x o) { s with heap:=h',toks:=t' }:=I.un (Un.write M a k h) (I.hok.write M a k h new)
def Inv.pins_of {P:bV}(I:Inv X o6 σ H s)(h:∀p∈P,s.heap.get? p.1=some p.2/\H p.1=none/\p.1≠X.env.locals/\p.1∉X.fs/\∀v,p.2.data≠.cell v):Inv X P σ H s:=
 ⟨I.ok,I.os,I.bare,I.base,I.loc,I.cell,I.free,I.freeC,λp a=>(cA.mp a).elim (λz=>I.pin p (bt _ z)) (h p),I.hok,I.len⟩
def UC (h:N.Nodup){j:Nat}(a:N[i]? =some x)(b:N[j]? =some x):i=j:=by obtain⟨c,E⟩:=cu.mp a;obtain⟨H,e⟩:=cu.mp b;exact(getElem_inj h).mp (E.trans e.symm)
def PV {A:Around}{v:V}{Q:Unit->Shared->Prop}(I:Inv X o6 σ H s)(hN:X.N.Nodup)(U:X.N[i]? =some x)(t:Loc X.env.scope x)(r:RelV v u)
  (h:∀s',Inv X o6 (σ.set i (some v)) H s'->(∃a,Heap.SameBut a s.heap s'.heap/\(a=X.env.locals∨X.env.cells.lookup x=some a))->Q () s')(hf:X.fn x=true∨X.env.scope.names.lookup x=some .local:=by first|exact .inl rfl|exact .inr rfl|assumption):wpAny M A (storeName X.env x u) Q E s:=by
 obtain⟨m,hn,hl⟩:=id I.loc;have Y:(X.env.scope.kind==.class || (X.env.scope.kind==.module&&X.env.locals != X.env.globals))=false:=by rw[I.ok.kind];rfl
 have J:i < σ.length:=by rw[I.len];exact(cu.mp U).1
 have cne:=I.cne;have tracked:∀{a:Addr}{h':Heap},(∃o,s.heap.get? a=some o/\H a=none)->Heap.SameBut a s.heap h'->jj X.prog X.w H h':=λ {a h'} ha f b ob e=>by
  obtain⟨_,_,B⟩:=ha;refine(I.hok b ob e).stay (λc w' l q=>(f.2 c ?_).trans q) (λ_ q=>q) λ_ _ q=>q
  rintro rfl
  rcases l with rfl|l
  ·rw[B]at e;cases e
  ·rw[B]at l;cases l
 rcases t with D|D
 ·refine wpAny_storeName_local D hn (λh' hn' f=>?_) Y
  obtain⟨oL,_,_,hoL,_⟩:=id hn;refine h _ ⟨I.ok,I.os,I.bare,⟨λb o e n P t=>?_,λb o e n P t=>?_,I.base.free,λb o e t=>?_,I.base.tups,I.base.frzs,I.base.tbls⟩,⟨_,hn',λj y v' g C e3=>?_⟩,λy c e=>?_,I.free,I.freeC,λp hp=>?_,tracked ⟨oL,hoL,I.free⟩ f,by simpa using I.len⟩ ⟨_,f,.inl rfl⟩
  ·exact(f.2 b (aO (aJ (aM e) I.ok.above))).trans (I.base.keep b o e n P t)
  ·obtain⟨sl,g⟩:=I.base.slot b o e n P t
   exact⟨sl,(f.2 b (aO (aJ (aM e) I.ok.above))).trans g⟩
  ·obtain⟨o',g⟩:=I.base.there b o e t
   exact⟨o',(f.2 b (aO (aJ (aM e) I.ok.above))).trans g⟩
  ·by_cases K:j=i
   ·subst K
    rw[U]at g;cases g;rw[av J]at C;cases C;exact⟨u,r,.inl ⟨D,by simp⟩⟩
   ·rw[aw (Ne.symm K)]at C
    obtain⟨u',r',q⟩:=hl j y v' g C e3;refine⟨u',r',?_⟩;rcases q with ⟨k,e⟩|⟨k,c,e,z⟩
    ·refine .inl ⟨k,?_⟩
     have:y≠x:=λe=>K (UC hN g (e ▸ U))
     simp[this,e]
    ·exact .inr ⟨k,c,e,z.sameBut f (cne y c e)⟩
  ·obtain⟨w',z⟩:=I.cell y c e
   exact⟨w',z.sameBut f (cne y c e)⟩
  ·obtain⟨e,n,ne,nf,d⟩:=I.pin p hp
   exact⟨(f.2 p.1 ne).trans e,n,ne,nf,d⟩
 ·have L:X.fn x=true:=by
   rcases hf with z|z
   ·exact z
   ·rw[z]at D;cases D
  obtain⟨c,l⟩:=I.ok.has x (.inl D);obtain⟨w',z⟩:=I.cell x c l;refine wpAny_storeName_cell I.ok.kind D l z (λh' hc' f=>?_);obtain⟨oc,T,S⟩:=id z;refine h { s with heap:=h' } ⟨I.ok,I.os,I.bare,⟨λb o e n P t=>?_,λb o e n P t=>?_,I.base.free,λb o e t=>?_,I.base.tups,I.base.frzs,I.base.tbls⟩,⟨m,hn.sameBut f (Ne.symm (cne x c l)),λj y v' g C e3=>?_⟩,λy c' e=>?_,I.free,I.freeC,λp hp=>?_,tracked ⟨oc,T,I.freeC x c l⟩ f,by simpa using I.len⟩ ⟨c,f,.inr l⟩
  ·exact(f.2 b (aO (aJ (aM e) (I.ok.cab x c L l)))).trans (I.base.keep b o e n P t)
  ·obtain⟨sl,g⟩:=I.base.slot b o e n P t
   exact⟨sl,(f.2 b (aO (aJ (aM e) (I.ok.cab x c L l)))).trans g⟩
  ·obtain⟨o',g⟩:=I.base.there b o e t
   exact⟨o',(f.2 b (aO (aJ (aM e) (I.ok.cab x c L l)))).trans g⟩
  ·by_cases K:j=i
   ·subst K
    rw[U]at g;cases g;rw[av J]at C;cases C;exact⟨u,r,.inr ⟨.inl D,c,l,hc'⟩⟩
   ·rw[aw (Ne.symm K)]at C
    obtain⟨u',r',q⟩:=hl j y v' g C e3;refine⟨u',r',?_⟩;rcases q with q|⟨k,c',e,z'⟩
    ·exact .inl q
    ·refine .inr ⟨k,c',e,z'.sameBut f ?_⟩
     rintro rfl
     exact K (UC hN g (I.ok.inj _ _ _ e l ▸ U))
  ·by_cases Z:c'=c
   ·subst Z;exact⟨_,hc'⟩
   ·obtain⟨w2,z2⟩:=I.cell y c' e
    exact⟨w2,z2.sameBut f Z⟩
  ·obtain⟨e,n,ne,nf,d⟩:=I.pin p hp
   refine⟨(f.2 p.1 ?_).trans e,n,ne,nf,d⟩;intro q;rw[q,T]at e;have q':oc=p.2:=aC e;exact d w' (by rw[<- q'];exact S)
def YE {A:Around}{v:V}{Q:Unit->Shared->Prop}(I:Inv X o6 σ H s)(c:X.N.Nodup)(b:X.N[i]? =some x)(a:Loc X.env.scope x)(r:RelV v u)
  (h:∀s',Inv X o6 (σ.set i (some v)) H s'->Q () s')(f:X.fn x=true∨X.env.scope.names.lookup x=some .local:=by first|exact .inl rfl|exact .inr rfl|assumption):wpAny M A (storeName X.env x u) Q E s:=
 PV I c b a r (λs' d _=>h s' d) f
def Inv.call' {ch:bU}(I:Inv X o6 σ H s)(o:s'.os=s.os)(u:Un (qJ X.stack) ch H H' s.heap s'.heap)(a:jj X.prog X.w H' s'.heap)(g:AllBare s'.gens)
  (h:∀b∈ch,(b∈X.ex∨X.s0.heap.objs.size<=b)/\b≠X.env.locals/\(∀x c,X.env.cells.lookup x=some c->c≠b)/\∀p∈X.pn++o6,p.1≠b):Inv X o6 σ H' s':=by
 obtain⟨i,f,D,t,d⟩:=s';have e:d=s.os:=o;subst e;exact I.call (g':=f) (t':=t) (d':=D) u a g h
end
abbrev XK:=Value->Option Addr->Hp->Prop
abbrev St:=List (Option V)
abbrev VK:=V->Hp->Prop
abbrev TE:=St->Hp->VK->Prop
abbrev TT:=St->Hp->(Bool->Hp->Prop)->Prop
abbrev TA:=St->Hp->(List V->Hp->Prop)->Prop
structure Ends where
 nx:St->Hp->Prop
 rt:VK
 bk:St->Hp->Prop:=λ_ _=>False
 ct:St->Hp->Prop:=λ_ _=>False
abbrev TS:=Ends->St->Hp->Prop
inductive EP (X:Cx)(o6:bV)(σ:St)(Q:VK)(u:Value)(s':Shared):Prop
 |mk (v:V) (H':Hp) (I:Inv X o6 σ H' s') (r:RelV v u) (q:Q v H')
def TP (X:Cx)(p:bV)(a:St)(Q:Bool->Hp->Prop)(b:Bool)(S:Shared):Prop:=∃H,Inv X p a H S/\Q b H
inductive AP (X:Cx)(o6:bV)(σ:St)(Q:List V->Hp->Prop)(us:bS)(s':Shared):Prop
 |mk (vs:List V) (H':Hp) (I:Inv X o6 σ H' s') (r:Vals vs us) (q:Q vs H')
def SP (X:Cx)(p:bV)(D:Ends)(f:Flow)(S:Shared):Prop:=
 match f with|.next=>∃a H,Inv X p a H S/\D.nx a H|.brk=>∃a H,Inv X p a H S/\D.bk a H|.cont=>∃a H,Inv X p a H S/\D.ct a H|.ret u=>∃v a H,Inv X p a H S/\RelV v u/\D.rt v H
def PE (X:Cx)(e:Expr)(t:TE):Prop:=
 ∀(o6:bV)(s:Shared)(σ:St)(H:Hp)(Q:VK),Inv X o6 σ H s->t σ H Q->wpAny (model X.prog X.w) X.A (eval e X.env) (EP X o6 σ Q) X.xe s
def PT (X:Cx)(e:Expr)(t:TT):Prop:=
 ∀(o6:bV)(s:Shared)(σ:St)(H:Hp)(Q:Bool->Hp->Prop),Inv X o6 σ H s->t σ H Q->wpAny (model X.prog X.w) X.A (isTrue e X.env (eval e X.env)) (TP X o6 σ Q) X.xe s
def PW (X:Cx)(e:Expr)(t:TT):Prop:=
 ∀(whole:Sem Value)(o6:bV)(s:Shared)(σ:St)(H:Hp)(Q:Bool->Hp->Prop),Inv X o6 σ H s->t σ H Q->wpAny (model X.prog X.w) X.A (isTrue e X.env whole) (TP X o6 σ Q) X.xe s
def PW.pt {X:Cx}{t:TT}(h:PW X e t):PT X e t:=h _
def PA (X:Cx)(e:bZ)(t:TA):Prop:=
 ∀(o7:Pos)(o6:bV)(s:Shared)(σ:St)(H:Hp)(Q:List V->Hp->Prop),Inv X o6 σ H s->t σ H Q->wpAny (model X.prog X.w) X.A (spliced (backTo o7 (starEach e X.env))) (AP X o6 σ Q) X.xe s
def PS (X:Cx)(S:Stmt)(t:TS):Prop:=
 ∀(o6:bV)(s:Shared)(σ:St)(H:Hp)(D:Ends),Inv X o6 σ H s->t D σ H->wpAny (model X.prog X.w) X.A (exec S X.env) (SP X o6 D) X.xe s
def yV (X:Cx)(S:cg)(t:TS):Prop:=
 ∀(o6:bV)(s:Shared)(σ:St)(H:Hp)(D:Ends),Inv X o6 σ H s->t D σ H->wpAny (model X.prog X.w) X.A (execs S X.env) (SP X o6 D) X.xe s
def zU {t:Sem α}{Q q:α->Shared->Prop}{A:Around}{s:Shared}(h:wpAny M A t Q E s)(H:∀a s,Q a s->q a s):wpAny M A t q E s:=wpAny_mono h H λ_ _ x=>x
section
variable {X:Cx}
def cJ (i:Nat):TE:=λa H Q=>∃v,a[i]? =some (some v)/\Q v H
def tC (v:V):TE:=λ_ H Q=>Q v H
def NK (n:X.N[i]? =some x)(g:WO X.env.scope x)(q:(x==("__debug__":Str))=false:=by decide)(d:(x==("__classdict__":Str))=false:=by decide):PE X (.Name x o7) (cJ i):=by
 intro p s t H Q I h;obtain⟨v,e,h⟩:=h;obtain⟨m,w,j⟩:=I.loc;obtain⟨u,r,l⟩:=j i x v n e g;have o:EP X p t Q u s:=⟨v,H,I,r,h⟩;rcases l with ⟨b,y⟩|⟨b,c,f,a⟩
 ·exact wpAny_Name (wpAny_loadName_local I.ok.kind b w y o) q
 ·rcases b with b|b
  ·exact wpAny_Name (wpAny_loadName_cell I.ok.kind b f a o) q
  ·exact wpAny_Name (wpAny_loadName_free I.ok.kind b f a o d) q
def NP {i j o7}:PE X (.Constant (.int i) j o7) (tC (.int i)):=λ_ _ _ H _ I h=>wpAny_Constant_int ⟨.int i,H,I.tok _,⟨_,rfl⟩,h⟩
def cK {b j o7}:PE X (.Constant (.bool b) j o7) (tC (.bl b)):=λ_ _ _ H _ I h=>Constant_bool ⟨.bl b,H,I,rfl,h⟩
def cL {j o7}:PE X (.Constant .none j o7) (tC .non):=λ_ _ _ H _ I h=>Constant_none ⟨.non,H,I,rfl,h⟩
def cM {x j o7}:PE X (.Constant (.str x) j o7) (tC (.str x)):=λ_ _ _ H _ I h=>Calls.Constant_str ⟨.str x,H,I.tok _,⟨_,rfl⟩,h⟩
def Gl (X:Cx)(x:Str):Prop:=X.env.kindOf x=some .globalImplicit
def YF {s:Shared}{a:St}{H:Hp}(I:Inv X o6 a H s)(g:Gl X x)(b:X.mg x=some u)(h:Q u s)
  (d:(x==("__debug__":Str))=false:=by decide):wpAny (model X.prog X.w) X.A (eval (.Name x o7) X.env) Q E s:=
 Calls.Name_function_global I.ok.kind g (Calls.loadGlobal_global (by rw[I.ok.glob];exact I.mod.glob.keeps I.bk) b h) d
def Qu {s:Shared}{a:St}{H:Hp}(I:Inv X o6 a H s)(g:Gl X x)(b:X.mg x=none)(v:bootBuiltins x=some u)(h:Q u s)
  (n:x ≠ "__name__":=by decide)(d:(x==("__debug__":Str))=false:=by decide):wpAny (model X.prog X.w) X.A (eval (.Name x o7) X.env) Q E s:=by
 obtain⟨M,e,c⟩:=I.mod.blt;exact Calls.Name_function_global I.ok.kind g (Calls.loadGlobal_builtin (by rw[I.ok.glob];exact I.mod.glob.keeps I.bk) b (by rw[I.ok.blt];exact e.keeps I.bk) ((c x n).trans v) h) d
def Ad {v:V}(g:Gl X x)(a:X.mg x=some u)(r:RelV v u)(d:(x==("__debug__":Str))=false:=by decide):PE X (.Name x o7) (tC v):=
 λ_ _ _ H _ I h=>YF I g a ⟨v,H,I,r,h⟩ d
def G3 {v:V}(g:Gl X x)(b:X.mg x=none)(a:bootBuiltins x=some u)(r:RelV v u)(n:x ≠ "__name__":=by decide)(d:(x==("__debug__":Str))=false:=by decide):PE X (.Name x o7) (tC v):=
 λ_ _ _ H _ I h=>Qu I g b a ⟨v,H,I,r,h⟩ n d
variable {a b:Expr}{ta tb:TE}
def Cq (b:Expr)(h:op≠.In)(H:op≠.NotIn):behindInMarks op b=false:=by
 have E:(op==CmpOp.In)=false:=by cases op<;>first|rfl|exact absurd rfl h
 have e:(op==CmpOp.NotIn)=false:=by cases op<;>first|rfl|exact absurd rfl H
 cases b<;>simp[behindInMarks,E,e]
def tB (t:TE):TT:=λa H Q=>t a H λx h=>∃c,x=.bl c/\Q c h
def cN {t:TE}(h:PE X e t)(f:∀w,isTrue e X.env w=(do let v <- w;standAt e.pos;holding [v] (truthy v)):=by intro _;rfl):PT X e (tB t):=by intro p s b H Q I c;refine isTrue_plain (zU (h p s b H _ I c) λv S ⟨x,g,i,r,a⟩=>?_) (f _);obtain⟨d,rfl,q⟩:=a;cases r;exact wpAny_truthy_bool ⟨g,i,q⟩
variable {tA tB':TT}{oK:bZ}
def cO (t u:TT):TT:=λa H Q=>t a H λc h=>if c=true then u a h Q else Q false h
def cP (t u:TT):TT:=λa H Q=>t a H λc h=>if c=true then Q true h else u a h Q
def cQ (t:TT):TT:=λa H Q=>t a H λc h=>Q (!c) h
def pw_and1 (b:PT X a tA):PW X (.BoolOp .And [a] o7) tA:=by
 intro w p s d H Q I h;refine isTrue_and (zU (b p s d H Q I h) λc S e=>?_);cases c with|true=>exact isTrue_and_nil e|false=>exact e
def pw_or1 (b:PT X a tA):PW X (.BoolOp .Or [a] o7) tA:=by
 intro w p s d H Q I h;refine isTrue_or (zU (b p s d H Q I h) λc S e=>?_);cases c with|false=>exact isTrue_or_nil e|true=>exact e
def pw_and (e:PT X a tA)(d:PW X (.BoolOp .And (b::oK) o7) tB'):PW X (.BoolOp .And (a::b::oK) o7) (cO tA tB'):=by
 intro w p s f H Q I h;refine isTrue_and (zU (e p s f H _ I h) λc S ⟨g,i,q⟩=>?_);cases c with|true=>exact d w p S f g Q i q|false=>exact⟨g,i,q⟩
def pw_or (e:PT X a tA)(d:PW X (.BoolOp .Or (b::oK) o7) tB'):PW X (.BoolOp .Or (a::b::oK) o7) (cP tA tB'):=by
 intro w p s f H Q I h;refine isTrue_or (zU (e p s f H _ I h) λc S ⟨g,i,q⟩=>?_);cases c with|true=>exact⟨g,i,q⟩|false=>exact d w p S f g Q i q
def cR (b:PT X a tA):PT X (.UnaryOp .Not a o7) (cQ tA):=by intro p s d H Q I h;exact isTrue_not (b p s d H (λc e=>Q (!c) e) I h)
def cS (t tb:TE):TE:=λa H Q=>t a H λx h=>∃c,x=.bl c/\if c=true then tb a h Q else Q (.bl false) h
def cT (t:TE):TE:=λa H Q=>t a H λx h=>∃c,x=.bl c/\Q (.bl (!c)) h
def cU {op}{t:TE}(h:PE X a t):PE X (.BoolOp op [a] o7) t:=λp s b H Q I w=>BoolOp_one (h p s b H Q I w)
def cV (e:PE X a ta)(d:PE X (.BoolOp .And (b::oK) o7) tb):PE X (.BoolOp .And (a::b::oK) o7) (cS ta tb):=by
 intro p s f H Q I h;refine BoolOp_and (zU (e p s f H _ I h) λv S ⟨x,g,i,r,q⟩=>?_);obtain⟨c,rfl,q⟩:=q;cases r;refine wpAny_truthy_bool ?_;cases c with|true=>exact d p S f g Q i q|false=>exact⟨.bl false,g,i,rfl,q⟩
def cW (b:PE X a ta):PE X (.UnaryOp .Not a o7) (cT ta):=by intro p s d H Q I h;refine UnaryOp_ (zU (b p s d H _ I h) λv S ⟨x,e,i,r,q⟩=>?_);obtain⟨c,rfl,q⟩:=q;cases r;exact not_of (wpAny_truthy_bool ⟨.bl (!c),e,i,rfl,q⟩)
def cX (t:TT)(T tb:TE):TE:=λa H Q=>t a H λc h=>if c=true then T a h Q else tb a h Q
def Be {c:Expr}(e:PT X c tA)(g:PE X a ta)(f:PE X b tb):PE X (.IfExp c a b o7) (cX tA ta tb):=by
 intro p s j H Q I h;refine wpAny_IfExp (zU (e p s j H _ I h) λd S ⟨l,i,q⟩=>?_);cases d with|true=>exact g p S j l Q i q|false=>exact f p S j l Q i q
end
def q9 (K:Frag)(H:Hp)(a:Addr)(x:List V):Prop:=
 Rd H a (.lst x)∨
  ∃(o:Obj) (oE:Array Value) (n:Nat),K.lookup a=some o/\o.cls=.type "list" /\ o.dict=none/\o.data=.seq oE n/\oE.size<=sizeLine/\Vals x oE.toList
def qF (K:Frag)(H:Hp)(a:Addr)(x:List V):Prop:=
 Rd H a (.tup x)∨
  ∃(o:Obj) (oE:Array Value) (n:Nat),K.lookup a=some o/\(o.cls=.type "tuple" /\ o.dict=none)/\o.data=.seq oE n/\oE.size<=sizeLine/\Vals x oE.toList
def cY:Value->Option V
 |.none=>some .non|.bool b=>some (.bl b)|.int i _=>some (.int i)|.str x _=>some (.str x)|.bytes b _=>some (.byt b)|.float b _=>some (.flt b)|.ref a=>some (.ref a)|.type n=>some (.ty n)|_=>none
def RelV.abs {x:V}(r:RelV x u):cY u=some x:=by
 cases x with|non=>cases r;rfl|bl _=>cases r;rfl|int _=>obtain⟨t,rfl⟩:=r;rfl|str _=>obtain⟨t,rfl⟩:=r;rfl|byt _=>obtain⟨t,rfl⟩:=r;rfl|flt _=>obtain⟨t,rfl⟩:=r;rfl|ref _=>cases r;rfl|ty _=>cases r;rfl
def RelV.inj {x y:V}(r:RelV x u)(q:RelV y u):x=y:=aC (r.abs.symm.trans q.abs)
theorem Vals.inj:∀{x y:List V}{u:bS},Vals x u->Vals y u->x=y
 |_,_,_,.nil,.nil=>rfl|_,_,_,.cons r t,.cons a t'=>by rw[r.inj a,Vals.inj t t']
section
variable {X:Cx}{σ:St}{H:Hp}{s:Shared}{xs ys:List V}
def q9.of {K:Frag}(h:H a=some (.lst xs)):q9 K H a xs:=.inl (.inl h)
def qF.of {K:Frag}(h:H a=some (.tup xs)):qF K H a xs:=.inl (.inl h)
def Inv.list (I:Inv X o6 σ H s)(h:q9 X.K H a xs):∃i:bS,Vals xs i/\PlainL s.heap a i.toArray/\xs.length<=sizeLine:=by
 rcases h with h|⟨o,i,n,c,d,hd,b,f,r⟩
 ·obtain⟨z,i,n,r,e⟩:=h.ok I.hok
  exact⟨i,r,⟨_,n,e,rfl,rfl,rfl⟩,z⟩
 ·refine⟨i.toList,r,⟨o,n,I.kIn a o c,d,hd,by simpa using b⟩,?_⟩
  have e:=r.length;simp only[length_toList]at e;lia
def Inv.tuple (I:Inv X o6 σ H s)(h:qF X.K H a xs):∃i:bS,Vals xs i/\IsTup s.heap a i.toArray/\xs.length<=sizeLine:=by
 rcases h with h|⟨o,i,n,c,d,b,f,r⟩
 ·obtain⟨z,i,r,p⟩:=h.ok I.hok
  exact⟨i,r,p.tup,z⟩
 ·refine⟨i.toList,r,⟨o,I.kIn a o c,d.1,n,by simpa using b⟩,?_⟩
  have e:=r.length;simp only[length_toList]at e;lia
def Inv.list_inj (I:Inv X o6 σ H s)(h:q9 X.K H a xs)(f:q9 X.K H a ys):xs=ys:=by
 obtain⟨i,r,⟨o,n,e,_,_,d⟩,_⟩:=I.list h;obtain⟨c,b,⟨g,N,E,_,_,D⟩,_⟩:=I.list f;rw[e]at E;cases E;rw[d]at D;injection D with d1 _
 have:i=c:=by simpa using congrArg Array.toList d1
 subst this;exact r.inj b
def Inv.tupleN (I:Inv X o6 σ H s)(h:qF X.K H a xs):∃ob,s.heap.get? a=some ob/\ob.dict=none:=by
 rcases h with h|⟨o,i,n,b,d,g,f,r⟩
 ·obtain⟨z,i,r,o,e,c,_⟩:=h.ok I.hok
  exact⟨o,e,c.2⟩
 ·exact⟨o,I.kIn a o b,d.2⟩
def Inv.tuple_inj (I:Inv X o6 σ H s)(h:qF X.K H a xs)(f:qF X.K H a ys):xs=ys:=by
 obtain⟨i,r,⟨o,e,_,n,d⟩,_⟩:=I.tuple h;obtain⟨c,b,⟨g,E,_,N,D⟩,_⟩:=I.tuple f;rw[e]at E;cases E;rw[d]at D;injection D with d1 _
 have:i=c:=by simpa using congrArg Array.toList d1
 subst this;exact r.inj b
end
noncomputable abbrev Cx.wish (X:Cx)(E:bY):Cx:={ X with xe:=E }
abbrev Cx.nox (X:Cx):Cx:=X.wish λ_ _=>False
theorem Cx.Ok.wish {X:Cx}(ok:X.Ok)(E:bY):(X.wish E).Ok:=
 ⟨ok.mod,ok.kind,ok.glob,ok.blt,ok.above,ok.inj,ok.has,ok.cab,ok.hd,ok.frames,ok.stk,ok.exf,ok.bs,ok.bsz,ok.noex,ok.exfs,ok.funs,ok.frf⟩
def Cx.Ok.unwish {X:Cx}(ok:(X.wish E).Ok):X.Ok:=
 ⟨ok.mod,ok.kind,ok.glob,ok.blt,ok.above,ok.inj,ok.has,ok.cab,ok.hd,ok.frames,ok.stk,ok.exf,ok.bs,ok.bsz,ok.noex,ok.exfs,ok.funs,ok.frf⟩
section
variable {X:Cx}{σ:St}{H:Hp}{s:Shared}
theorem Inv.wish (I:Inv X o6 σ H s)(E:bY):Inv (X.wish E) o6 σ H s:=⟨I.ok.wish E,I.os,I.bare,I.base,I.loc,I.cell,I.free,I.freeC,I.pin,I.hok,I.len⟩
theorem Inv.unwish (I:Inv (X.wish E) o6 σ H s):Inv X o6 σ H s:=⟨I.ok.unwish,I.os,I.bare,I.base,I.loc,I.cell,I.free,I.freeC,I.pin,I.hok,I.len⟩
theorem SP.unwish {D:Ends}{f:Flow}(h:SP (X.wish E) o6 D f s'):SP X o6 D f s':=by
 cases f with|next=>obtain⟨a,H,I,q⟩:=h;exact⟨a,H,I.unwish,q⟩|brk=>obtain⟨a,H,I,q⟩:=h;exact⟨a,H,I.unwish,q⟩|cont=>obtain⟨a,H,I,q⟩:=h;exact⟨a,H,I.unwish,q⟩|ret u=>obtain⟨v,a,H,I,r,q⟩:=h;exact⟨v,a,H,I.unwish,r,q⟩
theorem PE.nox {t:TE}(h:PE X.nox e t):PE X e t:=λp s b H Q I w=>
 wpAny_mono (h p s b H Q (I.wish _) w) (λ_ _ ⟨v,a,i,r,q⟩=>⟨v,a,i.unwish,r,q⟩) λ_ _ z=>False.elim z
theorem PT.nox {t:TT}(h:PT X.nox e t):PT X e t:=λp s b H Q I w=>
 wpAny_mono (h p s b H Q (I.wish _) w) (λ_ _ ⟨a,i,q⟩=>⟨a,i.unwish,q⟩) λ_ _ z=>False.elim z
theorem yV.nox {S:cg}{t:TS}(h:yV X.nox S t):yV X S t:=λp s a H D I w=>
 wpAny_mono (h p s a H D (I.wish _) w) (λ_ _ q=>q.unwish) λ_ _ z=>False.elim z
end
section
variable {X:Cx}{st:Stmt}{oK:cg}{t u:TS}{te:TE}
def cZ:TS:=λD a H=>D.nx a H
def c3 (t u:TS):TS:=λD a H=>t { D with nx:=u D } a H
def AQ:yV X [] cZ:=λ_ _ a H _ I h=>wpAny_execs_nil ⟨a,H,I,h⟩
def Bf (e:PS X st t)(d:yV X oK u):yV X (st::oK) (c3 t u):=by
 intro p s c H D I h;refine wpAny_execs_cons (zU (e p s c H { D with nx:=u D } I h) λf S q=>?_)
 cases f with
 |next=>
  obtain⟨a,b,i,q⟩:=q;exact d p S a b D i q
 |ret v=>exact q|brk=>exact q|cont=>exact q
def Inv.quiet {a:St}{H:Hp}{s:Shared}(I:Inv X o6 a H s):interactive X.env=false:=by simp[interactive,I.ok.kind]
def c4 (t:TE):TS:=λD a H=>t a H λ_ h=>D.nx a h
def AU (c:PE X e te)(a:swapsWith e none o7.line X.env=pure false:=by rfl):PS X (.Expr e o7) (c4 te):=by intro p s b H D I h;exact wpAny_Expr_any (zU (c p s b H _ I h) λv S ⟨x,d,i,r,q⟩=>⟨b,d,i,q⟩) I.quiet a
def c6 (t:TE):TS:=λD a H=>t a H D.rt
def c7 (b:PE X e te):PS X (.Return (some e) o7) (c6 te):=by intro p s a H D I h;exact wpAny_Return_some (zU (b p s a H _ I h) λv S ⟨x,c,i,r,q⟩=>⟨x,a,c,i,r,q⟩)
def c8 (c:TT)(t u:TS):TS:=λD a H=>c a H λb h=>if b=true then t D a h else u D a h
def c9 {c:Expr}{a b:cg}{T:TT}(e:PT X c T)(g:yV X a t)(f:yV X b u):PS X (.If c a b o7) (c8 T t u):=by
 intro p s j H D I h;refine wpAny_If (zU (e p s j H _ I h) λd S ⟨l,i,q⟩=>?_);cases d with|true=>exact g p S j l D i q|false=>exact f p S j l D i q
end
abbrev TG:=V->St->Hp->(St->Hp->Prop)->Prop
abbrev Yc:=List V->St->Hp->(St->Hp->Prop)->Prop
def PG (X:Cx)(T:Expr)(t:TG):Prop:=
 ∀(o6:bV)(s:Shared)(σ:St)(H:Hp)(v:V)(u:Value)(Q:St->Hp->Prop),Inv X o6 σ H s->RelV v u->t v σ H Q->
  wpAny (model X.prog X.w) X.A (assign T X.env u) (λ_ S=>∃a h,Inv X o6 a h S/\Q a h) X.xe s
def Vl (X:Cx)(T:bZ)(t:Yc):Prop:=
 ∀(o6:bV)(s:Shared)(σ:St)(H:Hp)(vs:List V)(us:bS)(Q:St->Hp->Prop),Inv X o6 σ H s->Vals vs us->t vs σ H Q->
  wpAny (model X.prog X.w) X.A (assignInOrder ((assignEach T X.env).map (·.2)) us) (λ_ S=>∃a h,Inv X o6 a h S/\Q a h) X.xe s
abbrev J6:=V->V->V->Hp->(Hp->Prop)->Prop
def X2 (X:Cx)(t:J6):Prop:=
 ∀(o6:bV)(s:Shared)(σ:St)(H:Hp)(o i v:V)(a I u:Value)(Q:Hp->Prop),Inv X o6 σ H s->RelV o a->RelV i I->RelV v u->t o i v H Q->
  wpAny (model X.prog X.w) X.A (setItem a I u) (λ_ S=>∃h,Inv X o6 σ h S/\Q h) X.xe s
abbrev Vi:=V->V->Hp->VK->Prop
def Ia (X:Cx)(o:Operator)(t:Vi):Prop:=
 ∀(o6:bV)(s:Shared)(σ:St)(H:Hp)(x y:V)(v u:Value)(Q:VK),Inv X o6 σ H s->RelV x v->RelV y u->t x y H Q->
  wpAny (model X.prog X.w) X.A (inplaceOp o v u) (EP X o6 σ Q) X.xe s
section
variable {X:Cx}
def Xz (i:Nat):TG:=λv a H Q=>Q (a.set i (some v)) H
def YK (c:X.N.Nodup)(b:X.N[i]? =some x)(a:Loc X.env.scope x)(f:X.fn x=true∨X.env.scope.names.lookup x=some .local:=by first|exact .inl rfl|exact .inr rfl|assumption):PG X (.Name x o7) (Xz i):=by intro p s e H v u Q I r h;exact wpAny_assign_Name (YE I c b a r (λS d=>⟨_,H,d,h⟩) f)
def da:Yc:=λv a H Q=>v=[]/\Q a H
def dc (t:TG)(u:Yc):Yc:=λc b H Q=>∃v r,c=v::r/\t v b H λa h=>u r a h Q
def UN:Vl X [] da:=by intro p s a H v u Q I r h;obtain⟨e,h⟩:=h;subst e;cases r;exact assignInOrder_nil ⟨a,H,I,h⟩
def Yz {E:bZ}{t:TG}{u:Yc}(l:PG X e t)(j:Vl X E u)
  (c:(assignEach (e::E) X.env).map (·.2)=assign e X.env::(assignEach E X.env).map (·.2):=by rfl):Vl X (e::E) (dc t u):=by
 intro p s g H o U Q I r h;obtain⟨v,f,d,h⟩:=h;subst d;cases r with
 |cons r b=>
  rw[c];refine assignInOrder_cons (zU (l p s g H _ _ _ I r h) λ_ S ⟨a,n,i,q⟩=>?_);exact j p S a n _ _ Q i b q
def jS (K:Frag)(n:Nat)(t:Yc):TG:=λv b H Q=>∃a x,v=.ref a/\qF K H a x/\x.length=n/\t x b H Q
def TU {E:bZ}{k:Nat}{t:Yc}(f:X.calm=true)(h:Vl X E t)
  (C:(assignEach E X.env).length=n:=by rfl)(c:(assignEach E X.env).findIdx? (·.1)=none:=by rfl):PG X (.Tuple E k o7) (jS X.K n t):=by
 intro p s y H v u Q I r w;obtain⟨a,A,g,q,l,w⟩:=w;subst g;cases r;obtain⟨i,d,B,z⟩:=I.tuple q;refine assign_Tuple_tuple (I.ok.hd f) B (by simp[C,<- l,d.length]) c λD x=>?_
 have j:Inv X p y H { s with heap:=D }:=I.kept (t':=s.toks) λb o e=>x b o (aO (aM e)) e
 exact h p _ y H A _ Q j (by simpa using d) w
def w5 (to T:TE)(t:J6):TG:=λv b H Q=>to b H λo c=>T b c λi a=>t o i v a λh=>Q b h
def de {o i:Expr}{to T:TE}{t:J6}(f:PE X o to)(g:PE X i T)(e:X2 X t)
  (j:∀v,assign (.Subscript o i o7) X.env v=(do
   let ov <- holding [v] (eval o X.env)
   let iv <- holding [v,ov] (eval i X.env)
   standAt o7
   holding [v,ov,iv] (setItem ov iv v)
   release [v,ov,iv] []):=by intro _;rfl):PG X (.Subscript o i o7) (w5 to T t):=by
 intro P s A H v u Q I r h;rw[j];refine cj (wpAny_holding (zU (f P s A H _ I h) λov B ⟨x,C,p,b,d⟩=>?_));refine cj (wpAny_holding (zU (g P B A C _ p d) λiv S ⟨y,z,n,a,c⟩=>?_));refine cj (wpAny_standAt (cj (wpAny_holding (zU (e P S A z x y v ov iv u _ n b a r c) λ_ D ⟨w,l,q⟩=>?_))));exact wpAny_release ⟨A,w,l,q⟩
def XS (t:TE)(g:TG):TS:=λD a H=>t a H λx h=>g x a h D.nx
def Mg {t:TE}{g:TG}(d:PE X e t)(b:PG X tg g)(a:swapsWithSole [tg] e o7.line X.env=pure false:=by rfl)(w:swappedStores [tg] e X.env=pure none:=by rfl)
  (f:(assignEach [tg] X.env).map (·.2)=[assign tg X.env]:=by rfl):PS X (.Assign [tg] e o7) (XS t g):=by
 intro p s c H D I h;refine wpAny_Assign_stores (zU (d p s c H _ I h) λv S ⟨x,j,i,r,Q⟩=>?_) a w;rw[f];exact zU (b p S c j x v _ i r Q) λ_ l q=>q
def df {t:TE}{p:Pos}(d:X.N.Nodup)(c:X.N[i]? =some x)(a:Loc X.env.scope x)(n:PE X e t)(b:swapsWith e (some (.Name x p)) o7.line X.env=pure false:=by rfl)(l:X.fn x=true∨X.env.scope.names.lookup x=some .local:=by first|exact .inl rfl|exact .inr rfl|assumption):
  PS X (.Assign [.Name x p] e o7) (XS t (Xz i)):=by
 intro P s j H D I h;refine wpAny_Assign_Name (zU (n P s j H _ I h) λv u ⟨y,o,g,r,q⟩=>?_) b;exact YE g d c a r (λS f=>⟨_,o,f,q⟩) l
def dh (i j:Nat)(t:TA):TS:=λD a H=>t a H λb h=>∃v w,b=[v,w]/\D.nx ((a.set i (some v)).set j (some w)) h
def di {j:Nat}{y:Str}{a b:Expr}{t:TA}{P py pt:Pos}{kt k2 pt2}(M:X.calm=true)(l:X.N.Nodup)(L:X.N[i]? =some x)(K:X.N[j]? =some y)(d:i≠j)
  (g:X.env.scope.names.lookup x=some .local)(f:X.env.scope.names.lookup y=some .local)(S:PA X [a,b] t)
  (hw:swappedStores [.Tuple [.Name x P,.Name y py] kt pt] (.Tuple [a,b] k2 pt2) X.env=pure (some [x,y]))
  (J:swapsWithSole [.Tuple [.Name x P,.Name y py] kt pt] (.Tuple [a,b] k2 pt2) o7.line X.env=pure false:=by rfl):
  PS X (.Assign [.Tuple [.Name x P,.Name y py] kt pt] (.Tuple [a,b] k2 pt2) o7) (dh i j t):=by
 intro o6 s σ H D I h;rw[exec_Assign_arm];refine cj (wpAny_standAt ?_);rw[J];refine cj (cn ?_);rw[aj (by decide)]
 refine cj (Tuple_ (zU (S _ o6 s σ H _ I h) λus s1 ⟨vs,H1,I1,B,Q⟩=>?_));obtain⟨v,w,T,Q⟩:=Q;subst T;obtain⟨U,u,rfl,z,r⟩:∃U u,us=[U,u]/\RelV v U/\RelV w u:=by
  cases B with
  |cons p q=>
   cases q with
   |cons E C=>
    cases C;exact⟨_,_,rfl,p,E⟩
 refine wpAny_newObj_type ?_ (by show 2<=sizeLine;decide)
 have I2:Inv X o6 σ H1 { s1 with heap:=s1.heap.push { cls:=.type "tuple",data:=.seq [U,u].toArray } }:=I1.kept (t':=s1.toks) λb o e=>ag _ e
 rw[hw];refine cj (cn ?_);show wpAny (model X.prog X.w) X.A (do rule "assign.swapped-stores";let items <- unpackItems (.ref s1.heap.objs.size) 2 none;assignInOrder [λv=>bindName X.env y v,λv=>bindName X.env x v] items.reverse;pure Flow.next) _ _ _
 refine cj (wpAny_rule (cj (unpackItems_tuple (items:=#[U,u]) (I.ok.hd M) (IsTup.new s1.heap _) λh' c=>?_)));have Z:=I2.kept (h':=h') (t':=s1.toks) λb o e=>c b o (aO (aM e)) e;show wpAny _ _ (assignInOrder [λv=>bindName X.env y v,λv=>bindName X.env x v] [u,U] >>= λ_=>pure Flow.next) _ _ _;refine cj (assignInOrder_cons (wpAny_bindName (YE Z l K (.inl f) r (λs2 Y=>?_) (.inr f))));refine assignInOrder_cons (wpAny_bindName (YE Y l L (.inl g) z (λs3 n=>assignInOrder_nil (cn ?_)) (.inr g)));rw[List.set_comm _ _ (Ne.symm d)]at n;exact⟨_,H1,n,Q⟩
def dj (to g e:TE)(T:V->V->Hp->VK->Prop)(p:Vi)(t:J6):TS:=λD f H=>to f H λo j=>g f j λi d=>T o i d λx c=>e f c λy b=>p x y b λz a=>t o i z a λh=>D.nx f h
def Lb (X:Cx)(t:V->V->Hp->VK->Prop):Prop:=
 ∀(o6:bV)(s:Shared)(σ:St)(H:Hp)(o i:V)(v I:Value)(Q:VK),Inv X o6 σ H s->RelV o v->RelV i I->t o i H Q->
  wpAny (model X.prog X.w) X.A (getItem v I) (EP X o6 σ Q) X.xe s
def dk {o i:Expr}{to ti c:TE}{T:V->V->Hp->VK->Prop}{p:Vi}{t:J6}{op:Operator}(y:PE X o to)(z:PE X i ti)(A:Lb X T)(he:PE X e c)(x:Ia X op p)(w:X2 X t)
  (B:∀a b new,augStore i a b new=(do holding [new,a,b] (setItem a b new);release [new,a,b] [];pure .next):=by intros;rfl):PS X (.AugAssign (.Subscript o i oG) op e o7) (dj to ti c T p t):=by
 intro o6 s σ H D I h;refine wpAny_AugAssign_SubscriptAny (zU (y o6 s σ H _ I h) λa s1 ⟨x1,H1,M,d,u⟩=>?_) B;refine zU (z o6 s1 σ H1 _ M u) λb s2 ⟨x2,Y,L,r,n⟩=>?_;refine zU (A o6 s2 σ Y x1 x2 a b _ L d r n) λold s3 ⟨x3,U,K,g,l⟩=>?_;refine zU (he o6 s3 σ U _ K l) λv s4 ⟨x4,S,J,r4,j⟩=>?_;refine zU (x o6 s4 σ S x3 x4 old v _ J g r4 j) λnew s5 ⟨x5,P,E,f,Q⟩=>?_;exact zU (w o6 s5 σ P x1 x2 x5 a b new _ E d r f Q) λ_ Z ⟨N,C,q⟩=>⟨σ,N,C,q⟩
def dm (f:Int->Int->Int):Vi:=λx y H Q=>∃i j,x=.int i/\y=.int j/\Q (.int (f i j)) H
def dr:Ia X .Add (dm λi j=>i+j):=by intro p s b H x y v u Q I a r h;obtain⟨i,j,E,e,q⟩:=h;subst E;subst e;obtain⟨t,rfl⟩:=a;obtain⟨T,rfl⟩:=r;exact iadd_int ⟨.int _,H,I.tok _,⟨_,rfl⟩,q⟩
def dt (c:TT)(tb:TS):TS:=λD d H=>∃W:Nat->St->Hp->Prop,(∃m,W m d H)/\∀m d H,W m d H->
 c d H λb e=>if b=true then ∃N:St->Hp->Prop,(∀a h,N a h->∃M,M<m/\W M a h)/\tb { D with nx:=N,ct:=N,bk:=D.nx } d e else D.nx d e
def CN {c:Expr}{t:TT}{tb:TS}(p:PassesOwn (model X.prog X.w) X.A X.env X.xe)(z:PT X c t)(B:yV X body tb):PS X (.While c body [] o7) (dt t tb):=by
 intro P s K H D I h;obtain⟨W,⟨U,y⟩,turn⟩:=h;refine wpAny_While (codeAny_whileLoop (λn T=>∃e u,Inv X P e u T/\W n e u) ?_ U ⟨K,H,I,y⟩)
 rintro n L ⟨d,J,C,x⟩
 refine wpAny_passesOwn p (zU (z P L d J _ C (turn n d J x)) λb S ⟨r,o,Q⟩=>?_);cases b with
 |true=>
  obtain⟨N,l,Q⟩:=Q;rw[ai rfl];refine wpAny_passesOwn p (zU (B P S d r _ o Q) λf Y q=>?_);cases f with
  |next=>
   obtain⟨a,g,j,n3⟩:=q;obtain⟨M,E,i⟩:=l a g n3;exact⟨M,E,a,g,j,i⟩
  |cont=>
   obtain⟨a,g,j,n3⟩:=q;obtain⟨M,E,i⟩:=l a g n3;exact⟨M,E,a,g,j,i⟩
  |brk=>exact q|ret v=>exact q
 |false=>
  rw[aj aH];exact wpAny_execs_nil ⟨d,r,o,Q⟩
end
structure It where
 go:Nat->Hp->Prop
 yld:Nat->Hp->V->Hp->Prop
 stop:Nat->Hp->Prop
def w6 (X:Cx)(P:bV)(H:Hp)(b:Addr):Prop:=
 H b=none/\b≠X.env.locals/\b∉X.fs/\(b∈X.ex∨X.s0.heap.objs.size<=b)/\(∀x c,X.env.cells.lookup x=some c->c≠b)/\∀p∈X.pn++P,p.1≠b
def Inv.fpOk {X:Cx}{f:St}{H a:Hp}{s:Shared}(I:Inv X o6 f H s)(h:s.heap.objs.size<=b)(n:a b=none):w6 X o6 a b:=by
 refine⟨n,ne_of_gt (aJ I.lt h),I.nofs h,.inr (a4 I.sz h),λx c e z=>?_,λp d z=>?_⟩
 ·obtain⟨v,q⟩:=I.cell x c e
  exact absurd (aJ q.lt (by rw[z];exact h)) (aT _)
 ·exact absurd (aJ (aM (I.pin p d).1) (by rw[z];exact h)) (aT _)
structure Turn (P:Program)(w:World)(K:Frag)(tg:Expr)(J:It)(fp:bU)(it:Addr)(tn:Nat->Heap->Prop):Prop where
 mem:it∈fp
 obj:∀i h,tn i h->∀b∈fp,∃o,h.get? b=some o/\∀v,o.data≠.cell v
 keep:∀i h h',tn i h->(∀b∈fp,∀o,h.get? b=some o->h'.get? b=some o)->tn i h'
 item:∀(X:Cx),X.prog=P->X.w=w->X.K=K->X.calm=true->∀(i:Nat)(o6:bV)(s:Shared)(σ:St)(H:Hp)(E:bY),Inv X o6 σ H s->(∀b∈fp,w6 X o6 H b)->tn i s.heap->J.go i H->
  wpAny (model P w) X.A (pyNext (.ref it)) (λr s1=>∃u,r=some u/\
   wpAny (model P w) X.A (letOwnedTupleGo tg (.ref it) u) (λ_ s2=>∃x H',Inv X o6 σ H' s2/\RelV x u/\J.yld i H x H'/\tn (i+1) s2.heap/\∀b∈fp,H' b=none) E s1) E s
 done:∀(X:Cx),X.prog=P->X.w=w->X.K=K->X.calm=true->∀(i:Nat)(o6:bV)(s:Shared)(σ:St)(H:Hp)(E:bY),Inv X o6 σ H s->(∀b∈fp,w6 X o6 H b)->tn i s.heap->J.stop i H->
  wpAny (model P w) X.A (pyNext (.ref it)) (λr s1=>r=none/\Inv X o6 σ H s1) E s
 self:∀(A:Around)(i:Nat)(s:Shared)(Q:bY)(E:bY),tn i s.heap->Q (.ref it) s->wpAny (model P w) A (pyIter (.ref it)) Q E s
abbrev TI:=St->Hp->(It->Hp->Prop)->Prop
inductive LM (X:Cx)(o6:bV)(σ:St)(tg:Expr)(R:It->Hp->Prop)(itv:Value)(s2:Shared):Prop
 |mk (it:Addr) (fp:bU) (tn:Nat->Heap->Prop) (J:It) (H':Hp) (e:itv=.ref it) (I:Inv X o6 σ H' s2) (T:Turn X.prog X.w X.K tg J fp it tn) (t0:tn 0 s2.heap) (f:(∀b∈fp,w6 X o6 H' b)) (q:R J H')
def PI (X:Cx)(t I:Expr)(i:TI):Prop:=
 ∀(o6:bV)(s:Shared)(σ:St)(H:Hp)(R:It->Hp->Prop),Inv X o6 σ H s->i σ H R->
  wpAny (model X.prog X.w) X.A (eval I X.env) (λv S=>wpAny (model X.prog X.w) X.A (pyIter v) (LM X o6 σ t R) X.xe S) X.xe s
def XI {A:Around}{s:Shared}{i:Addr}{o:Obj}{n:String}{v:Array Value}{Q:Unit->Shared->Prop}(a:s.heap.get? i=some o)(c:o.cls=.type n)(d:o.data=.fields v)
  (b:["enumerate","zip","dict_itemiterator","dict_reverseitemiterator","odict_iterator","itertools.zip_longest","itertools.pairwise"].contains n=false)(H:Q () s):wpAny M A (letOwnedTupleGo tg (.ref i) u) Q E s:=by
 unfold letOwnedTupleGo;cases tg<;>first
  |exact cn H
  |(cases u<;>first
    |exact cn H
    |(
      refine cj (wpAny_load a ?_);rw[c,d];show wpAny M A (if (["enumerate","zip","dict_itemiterator","dict_reverseitemiterator","odict_iterator","itertools.zip_longest","itertools.pairwise"].contains n&&v[0]?==some (rawInt _))=true then _ else _) Q E s;rw[aj (by intro h;rw[b,Bool.false_and]at h;cases h)]
      exact cn H))
def LZ (K:Frag)(a:Addr):It:=
 ⟨λi H=>∃X x,q9 K H a X/\X[i]? =some x,λi H x h=>h=H/\∀X,q9 K H a X->X[i]? =some x,λi H=>∃X,q9 K H a X/\X.length<=i⟩
def LQ (K:Frag)(a:Addr):It:=
 ⟨λi H=>∃X x,qF K H a X/\X[i]? =some x,λi H x h=>h=H/\∀X,qF K H a X->X[i]? =some x,λi H=>∃X,qF K H a X/\X.length<=i⟩
def WL (l:Int)(n:Nat):It:=⟨λi _=>i<n,λi H x h=>h=H/\x=.int (l+i),λi _=>n<=i⟩
def ES {K:Frag}(a it:Addr):Turn P w K tg (LZ K a) [it] it (λi h=>h.IsListIter it a i) where
 mem:=by simp
 obj:=λi h U b f=>by
  have e:b=it:=by simpa using f
  subst e;obtain⟨o,e,c,d⟩:=U;exact⟨o,e,λv z=>by rw[d]at z;cases z⟩
 keep:=λi h h' U k=>U.at λo e=>k it (by simp) o e
 item:=by
  intro X n hw t B i Z s σ H E I hf U l;subst n hw t;obtain⟨xs,x,q,j⟩:=l;obtain⟨g,r,p,J⟩:=I.list q;obtain⟨u,M,D⟩:=r.get j;obtain⟨f0,f1,f2,A,f4,y⟩:=hf it (by simp)
  refine wpAny_pyNext_list_item U p.isList (x:=u) (by simpa using M) λh' S C=>?_
  have Q:Inv X Z σ H { s with heap:=h' }:=I.turned (t':=s.toks) (λb o f e=>(C.2 b f).trans e) f0 f1 A f4 y
  obtain⟨o,e,c,d⟩:=id S;exact⟨u,rfl,XI (s:={ s with heap:=h' }) e c d (by decide) ⟨x,H,Q,D,⟨rfl,λY L=>by rw[I.list_inj L q];exact j⟩,S,λb f=>(hf b f).1⟩⟩
 done:=by
  intro X n hw t B i Z s σ H E I hf U l;subst n hw t;obtain⟨xs,q,j⟩:=l;obtain⟨g,r,p,J⟩:=I.list q;obtain⟨f0,f1,f2,A,f4,y⟩:=hf it (by simp)
  have T:=r.length;exact wpAny_pyNext_list_end (I.ok.hd B) U p.isList (by simp;lia) λh' N=>⟨rfl,I.turned (t':=s.toks) (λb o f e=>N b o f e) f0 f1 A f4 y⟩
 self:=λ_ _ _ _ _ U h=>wpAny_pyIter_listiter U h
def EJ {K:Frag}(a it:Addr):Turn P w K tg (LQ K a) [it] it (λi h=>h.IsTupleIter it a i) where
 mem:=by simp
 obj:=λi h U b g=>by
  have e:b=it:=by simpa using g
  subst e;obtain⟨o,e,c,d⟩:=U;exact⟨o,e,λv z=>by rw[d]at z;cases z⟩
 keep:=λi h h' U k=>U.at λo e=>k it (by simp) o e
 item:=by
  intro X n hw t B i Z s σ H E I hf U l;subst n hw t;obtain⟨xs,x,q,j⟩:=l;obtain⟨f,r,p,J⟩:=I.tuple q;obtain⟨u,M,D⟩:=r.get j;obtain⟨f0,f1,f2,A,f4,y⟩:=hf it (by simp)
  refine wpAny_pyNext_tuple_item U (show s.heap.IsTuple a f.toArray from p) (x:=u) (by simpa using M) λh' S C=>?_
  have Q:Inv X Z σ H { s with heap:=h' }:=I.turned (t':=s.toks) (λb o g e=>(C.2 b g).trans e) f0 f1 A f4 y
  obtain⟨o,e,c,d⟩:=id S;exact⟨u,rfl,XI (s:={ s with heap:=h' }) e c d (by decide) ⟨x,H,Q,D,⟨rfl,λY L=>by rw[I.tuple_inj L q];exact j⟩,S,λb g=>(hf b g).1⟩⟩
 done:=by
  intro X n hw t B i Z s σ H E I hf U l;subst n hw t;obtain⟨xs,q,j⟩:=l;obtain⟨f,r,p,J⟩:=I.tuple q;obtain⟨f0,f1,f2,A,f4,y⟩:=hf it (by simp)
  have T:=r.length;exact wpAny_pyNext_tuple_end (I.ok.hd B) U (show s.heap.IsTuple a f.toArray from p) (by simp;lia) λh' N=>⟨rfl,I.turned (t':=s.toks) (λb o g e=>N b o g e) f0 f1 A f4 y⟩
 self:=λ_ _ _ _ _ U h=>wpAny_pyIter_tupleiter U h
def Ed {K:Frag}(y:Addr)(L:Int)(n:Nat):Turn P w K tg (WL L n) [y] y (λi h=>IsRangeIter h y (L+(i:Nat) * 1) ((n:Int)-(i:Nat)) 1) where
 mem:=by simp
 obj:=λi h u b a=>by
  have e:b=y:=by simpa using a
  subst e;exact⟨_,u,λv z=>by have Z:Data.fields _=Data.cell v:=z;cases Z⟩
 keep:=λi h B u k=>k y (by simp) _ u
 item:=by
  intro X d C f c i x s N H E I A u g;subst d C f;obtain⟨M,J,U,l,D,j⟩:=A y (by simp)
  have W:=Walks.range (prog:=X.prog) (w:=X.w) (I.ok.hd c) y L 1 n;refine W.item i s _ _ g u λv B T p S Q=>?_;obtain⟨t,rfl⟩:=p;have r:Inv X x N H { s with heap:=B,toks:=T }:=I.turned (λb o a e=>Q b o (by simpa using a) e) M J l D j
  refine⟨_,rfl,XI (s:={ s with heap:=B,toks:=T }) (n := "range_iterator") S rfl rfl (by decide) ⟨.int (L+i),H,r,⟨t,?_⟩,⟨rfl,rfl⟩,S,λb a=>(A b a).1⟩⟩
  rw[Int.mul_one]
 done:=by
  intro X d C f c i x s N H E I A u g;subst d C f;obtain⟨M,J,U,l,D,j⟩:=A y (by simp)
  exact wpAny_pyNext_range_end (I.ok.hd c) u (by have:n<=i:=g;lia) λB q=>⟨rfl,I.turned (t':=s.toks) (λb o a e=>q b o a e) M J l D j⟩
 self:=λ_ _ _ _ _ u h=>wpAny_pyIter_rangeiter u h
section
variable {X:Cx}
def Og {j:St}{H:Hp}{s:Shared}{R:It->Hp->Prop}{l h:Int}{t u v:Tok}{T:Nat}(I:Inv X o6 j H s)(p:-(2 ^ 62)<=l)(n:l<2 ^ 62)(d:-(2 ^ 62)<=h)(c:h<2 ^ 62)
  (q:R (WL l (h-l).toNat) H):wpAny (model X.prog X.w) X.A (pyIter (.ref s.heap.objs.size)) (LM X o6 j tg R) E { s with heap:=s.heap.push { cls:=.type "range",data:=.fields #[.int l t,.int h u,.int 1 v] },toks:=T }:=by
 refine wpAny_pyIter_range (IsRange.new ..) (small_one p n d c) ?_;have i:Inv X o6 j H { s with heap:=s.heap.push { cls:=.type "range",data:=.fields #[.int l t,.int h u,.int 1 v] },toks:=T }:=I.kept λb o e=>ag _ e
 refine⟨(s.heap.push { cls:=.type "range",data:=.fields #[.int l t,.int h u,.int 1 v] }).objs.size,[(s.heap.push { cls:=.type "range",data:=.fields #[.int l t,.int h u,.int 1 v] }).objs.size],_,_,H,rfl,
  i.kept (t':=T) λb o e=>ag _ e,Ed _ l (h-l).toNat,?_,λb a=>?_,q⟩
 ·have g:l+((0:Nat):Int) * 1=l:=by simp
  have f:(((h-l).toNat:Nat):Int)-((0:Nat):Int)=Builtin.Range.rangeSize l h 1:=by rw[rangeSize_one];split<;>lia
  show IsRangeIter _ _ (l+((0:Nat):Int) * 1) ((((h-l).toNat:Nat):Int)-((0:Nat):Int)) 1;rw[g,f];exact aD _ rfl
 ·have e:b=(s.heap.push { cls:=.type "range",data:=.fields #[.int l t,.int h u,.int 1 v] }).objs.size:=by simpa using a
  subst e;exact i.fpOk (ao _) (i.hok.fresh (ao _))
def du (t:TA):TI:=λa H R=>t a H λv h=>∃j:Int,v=[.int j]/\-(2 ^ 62)<=j/\j<2 ^ 62/\R (WL 0 j.toNat) h
def dv (t:TA):TI:=λa H R=>t a H λv h=>∃i j:Int,v=[.int i,.int j]/\(-(2 ^ 62)<=i/\i<2 ^ 62/\-(2 ^ 62)<=j/\j<2 ^ 62)/\R (WL i (j-i).toNat) h
def Dd {a:Expr}{T:TA}(g:Gl X "range")(o:X.mg "range"=none)(i:PA X [a] T)(f:starEach [a] X.env=[(false,eval a X.env)]:=by rfl):PI X tg (.Call (.Name "range" p) [a] [] o7) (du T):=by
 intro P s n H R I h;refine Call_ (Qu I g o boot_range (PyProof.Rows.callWith_type1 (zU (i o7 P s n H _ I h) λu S ⟨v,w,l,c,Q⟩=>?_) f rfl));obtain⟨j,e,Q,d,q⟩:=Q;subst e;cases c with
 |cons r b=>
  cases b;obtain⟨t,rfl⟩:=r;exact call_range_1 (Og l (by lia) (by lia) Q d (by simpa using q))
def DV {a b:Expr}{T:TA}(v:Gl X "range")(z:X.mg "range"=none)(w:PA X [a,b] T)(u:starEach [a,b] X.env=[(false,eval a X.env),(false,eval b X.env)]:=by rfl)(c:starEach [b] X.env=[(false,eval b X.env)]:=by rfl):
  PI X tg (.Call (.Name "range" p) [a,b] [] o7) (dv T):=by
 intro P s y H R I h;refine Call_ (Qu I v z boot_range (PyProof.Rows.callWith_type1 (zU (w o7 P s y H _ I h) λU S ⟨A,C,x,f,Q⟩=>?_) (by rw[u,c]) (by rw[c];rfl)))
 obtain⟨i,j,e,⟨Q,o,n,l⟩,q⟩:=Q;subst e;cases f with
 |cons r d=>
  cases d with
  |cons g d=>
   cases d;obtain⟨t,rfl⟩:=r;obtain⟨B,rfl⟩:=g;exact call_range_2 (Og x Q o n l q)
def dw (w:TI)(g:TG)(tb:TS):TS:=λD d H=>w d H λJ e=>∃W:Nat->Nat->St->Hp->Prop,(∃m,W 0 m d e)/\∀i m d H,W i m d H->
 (J.stop i H/\D.nx d H)∨(J.go i H/\∃N:St->Hp->Prop,(∀a h,N a h->∃M,M<m/\W (i+1) M a h)/\∀x h,J.yld i H x h->g x d h λb c=>tb { D with nx:=N,ct:=N,bk:=D.nx } b c)
def K8 (f:bU)(h:Heap):bV:=f.filterMap λb=>(h.get? b).map λo=>(b,o)
def Gr {o:Obj}(H:b∈fp)(e:h.get? b=some o):(b,o)∈K8 fp h:=List.mem_filterMap.mpr ⟨b,H,by rw[e];rfl⟩
def DX {p:Addr×Obj}(H:p∈K8 fp h):p.1∈fp/\h.get? p.1=some p.2:=by
 obtain⟨b,a,e⟩:=List.mem_filterMap.mp H;cases q:h.get? b with
 |none=>rw[q]at e;cases e|some o=>
  rw[q]at e;have E:(b,o)=p:=aC e;subst E;exact⟨a,q⟩
def Inv.pinned {f:St}{H:Hp}{s:Shared}(I:Inv X o6 f H s)(g:∀b∈fp,w6 X o6 H b)(c:∀b∈fp,∃o,s.heap.get? b=some o/\∀v,o.data≠.cell v):Inv X (o6++K8 fp s.heap) f H s:=
 I.pins_of λp a=>(cA.mp a).elim (λz=>I.pin p (aR _ z)) λz=>by obtain⟨h,e⟩:=DX z;obtain⟨l,j,i,_⟩:=g p.1 h;obtain⟨o,E,d⟩:=c p.1 h;rw[e]at E;cases E;exact⟨e,l,j,i,d⟩
def Inv.unpinned {P:bV}{a:St}{H:Hp}{s:Shared}(I:Inv X (o6++P) a H s):Inv X o6 a H s:=I.pins_of λp h=>I.pin p (aR _ (bt _ h))
def dy {U:TI}{g:TG}{tb:TS}(z:PassesOwn (model X.prog X.w) X.A X.env X.xe)(Z:X.calm=true)(hi:PI X tg o8 U)(hg:PG X tg g)(l:yV X body tb)
  (hs:∀x,foldedSetIterable o8 X.env x=pure x:=by intro _;rfl):PS X (.For tg o8 body [] o7) (dw U g tb):=by
 intro o6 s σ H D I h;refine wpAny_For (zU (hi o6 s σ H _ I h) λv s1 h1=>zU h1 λitv s2 h2=>?_) hs;obtain⟨it,fp,Y,J,H2,e,I2,T,Zk,f2,W,⟨m0,w0⟩,turn⟩:=h2;subst e;have S:∀{H':Hp},(∀b∈fp,H' b=none)->∀b∈fp,w6 X o6 H' b:=λhn b l=>⟨hn b l,(f2 b l).2⟩;refine codeAny_forLoop_any (λn s'=>∃i j H',Inv X o6 j H' s'/\Y i s'.heap/\(∀b∈fp,H' b=none)/\W i n j H') ?_ m0 ⟨0,σ,H2,I2,Zk,λb l=>(f2 b l).1,w0⟩
 rintro n s3 ⟨i,c,C,I3,ZN,B,w3⟩
 rcases turn i n c C w3 with ⟨stop,qn⟩|⟨go,N,hN,step⟩
 ·refine wpAny_passesOwn z (zU (T.done X rfl rfl rfl Z i o6 s3 c C X.xe I3 (S B) ZN stop) λr s4 ⟨L,I4⟩=>?_)
  subst L;exact wpAny_execs_nil ⟨c,C,I4,qn⟩
 ·refine wpAny_passesOwn z (zU (T.item X rfl rfl rfl Z i o6 s3 c C X.xe I3 (S B) ZN go) λr s4 ⟨u,L,h4⟩=>?_)
  subst L;refine wpAny_passesOwn z (zU h4 λ_ s5 ⟨x,H5,I5,r5,y5,t,M⟩=>?_);have P:=I5.pinned (S M) (T.obj _ _ t);refine wpAny_passesOwn z (zU (hg _ s5 c H5 x u _ P r5 (step x H5 y5)) λ_ s6 ⟨E,H6,I6,q6⟩=>?_);refine wpAny_passesOwn z (zU (l _ s6 E H6 _ I6 q6) λf K Q=>?_);have again:∀{a:St}{q:Hp},Inv X (o6++K8 fp s5.heap) a q K->N a q->∃m,m<n/\∃i j H',Inv X o6 j H' K/\Y i K.heap/\(∀b∈fp,H' b=none)/\W i m j H':=λ {a q} p y=>by obtain⟨m',hm,w7⟩:=hN a q y;refine⟨m',hm,i+1,a,q,p.unpinned,T.keep _ _ _ t λb l o e=>(p.pin (b,o) (aR _ (aR _ (Gr l e)))).1,λb l=>?_,w7⟩;obtain⟨o,e,d⟩:=T.obj _ _ t b l;exact(p.pin (b,o) (aR _ (aR _ (Gr l e)))).2.1
  cases f with|next=>obtain⟨a,q,p,y⟩:=Q;exact again p y|cont=>obtain⟨a,q,p,y⟩:=Q;exact again p y|brk=>obtain⟨a,q,p,Q⟩:=Q;exact⟨a,q,p.unpinned,Q⟩|ret v=>obtain⟨x7,a,q,p,r7,Q⟩:=Q;exact⟨x7,a,q,p.unpinned,r7,Q⟩
end
abbrev R2:=V->V->Hp->VK->Prop
def qU (X:Cx)(f:Value->Value->Sem Value)(r:R2):Prop:=
 ∀(o6:bV)(s:Shared)(σ:St)(H:Hp)(x y:V)(v u:Value)(Q:VK),Inv X o6 σ H s->RelV x v->RelV y u->r x y H Q->
  wpAny (model X.prog X.w) X.A (f v u) (EP X o6 σ Q) X.xe s
def Vr (X:Cx)(f:Value->Sem Value)(r:V->Hp->VK->Prop):Prop:=
 ∀(o6:bV)(s:Shared)(σ:St)(H:Hp)(x:V)(v:Value)(Q:VK),Inv X o6 σ H s->RelV x v->r x H Q->
  wpAny (model X.prog X.w) X.A (f v) (EP X o6 σ Q) X.xe s
def yB (X:Cx)(f:Value)(r:List V->Hp->VK->Prop):Prop:=
 ∀(o6:bV)(s:Shared)(σ:St)(H:Hp)(xs:List V)(us:bS)(Q:VK),Inv X o6 σ H s->Vals xs us->r xs H Q->
  wpAny (model X.prog X.w) X.A (call f us) (EP X o6 σ Q) X.xe s
def WM (r:R2)(t tb:TE):TE:=λa H Q=>t a H λx b=>tb a b λy h=>r x y h Q
def L7 (r:V->Hp->VK->Prop)(t:TE):TE:=λa H Q=>t a H λx h=>r x h Q
def rI (C:Int->Int->Prop)(g:Int->Int->V):R2:=λx y H Q=>∃i j,x=.int i/\y=.int j/\C i j/\Q (g i j) H
def Zt (g:Int->Int->V):R2:=λx y H Q=>∃i j,x=.int i/\y=.int j/\Q (g i j) H
def rU (g:Int->V):V->Hp->VK->Prop:=λx H Q=>∃i,x=.int i/\Q (g i) H
section
variable {X:Cx}{a b:Expr}{ta tb:TE}
def SR (j:PE X a ta)(i:PE X b tb){s:Shared}{o:St}{H:Hp}{R:V->V->Hp->Prop}(I:Inv X o6 o H s)
  (h:ta o H λx t=>tb o t λy c=>R x y c){f:Value->Value->Sem Value}
  (B:∀v u p x y c,Inv X o6 o c p->RelV x v->RelV y u->R x y c->wpAny (model X.prog X.w) X.A (f v u) Q X.xe p):
  wpAny (model X.prog X.w) X.A (eval a X.env) (λv d=>wpAny (model X.prog X.w) X.A (eval b X.env) (λu S=>wpAny (model X.prog X.w) X.A (f v u) Q X.xe S) X.xe d) X.xe s:=by
 refine zU (j o6 s o H _ I h) λv z ⟨x,t,n,e,g⟩=>?_;refine zU (i o6 z o t _ n g) λu p ⟨y,c,l,r,q⟩=>?_;exact B v u p x y c l e r q
def dz {j:Operator}{r:R2}(o:qU X (binaryOp j) r)(f:PE X a ta)(e:PE X b tb):PE X (.BinOp a j b o7) (WM r ta tb):=by intro p s l H Q I h;exact wpAny_BinOp (SR f e I h λv u S x y g i d c q=>o p S l g x y v u Q i d c q)
def Mw {e:UnaryOp}{r:V->Hp->VK->Prop}(o:Vr X (unaryOp e) r)(c:PE X a ta):PE X (.UnaryOp e a o7) (L7 r ta):=by intro p s d H Q I h;exact UnaryOp_ (zU (c p s d H _ I h) λv S ⟨x,f,i,b,q⟩=>o p S d f x v Q i b q)
def Kl {f:Value->Value->Sem Value}{C:Int->Int->Prop}{g:Int->Int->Int}
  (e:∀(i j:Int)(t u:Tok)(s:Shared)(Q:bY)(E:bY),C i j->Q (.int (g i j) s.toks) { s with toks:=s.toks+1 }->wpAny (model X.prog X.w) X.A (f (.int i t) (.int j u)) Q E s):
  qU X f (rI C λi j=>.int (g i j)):=by
 intro p s b H x y v u Q I a r h;obtain⟨i,j,rfl,rfl,c,q⟩:=h;obtain⟨t,rfl⟩:=a;obtain⟨T,rfl⟩:=r;exact e i j t T s _ _ c ⟨.int (g i j),H,I.tok _,⟨_,rfl⟩,q⟩
def Va {f:Value->Value->Sem Value}{g:Int->Int->Int}
  (e:∀(i j:Int)(t u:Tok)(s:Shared)(Q:bY)(E:bY),Q (.int (g i j) s.toks) { s with toks:=s.toks+1 }->wpAny (model X.prog X.w) X.A (f (.int i t) (.int j u)) Q E s):
  qU X f (Zt λi j=>.int (g i j)):=by
 intro p s b H x y v u Q I a r h;obtain⟨i,j,rfl,rfl,q⟩:=h;obtain⟨t,rfl⟩:=a;obtain⟨T,rfl⟩:=r;exact e i j t T s _ _ ⟨.int (g i j),H,I.tok _,⟨_,rfl⟩,q⟩
def XQ {f:Value->Value->Sem Value}{g:Int->Int->Bool}
  (e:∀(i j:Int)(t u:Tok)(s:Shared)(Q:bY)(E:bY),Q (.bool (g i j)) s->wpAny (model X.prog X.w) X.A (f (.int i t) (.int j u)) Q E s):
  qU X f (Zt λi j=>.bl (g i j)):=by
 intro p s b H x y v u Q I a r h;obtain⟨i,j,rfl,rfl,q⟩:=h;obtain⟨t,rfl⟩:=a;obtain⟨T,rfl⟩:=r;exact e i j t T s _ _ ⟨.bl (g i j),H,I,rfl,q⟩
def SN (i j:Int):Prop:=0<=j/\j<=1000000/\i.natAbs<2 ^ 64
def Wz (i j:Int):Prop:=(-(2 ^ 64)<i/\i<2 ^ 64)∨(-(2 ^ 64)<j/\j<2 ^ 64)∨i.natAbs<2 ^ 256/\j.natAbs<2 ^ 256
def Wz.ok {i j:Int}(h:Wz i j):IntMulOk i j:=by
 rcases h with ⟨a,H⟩|⟨a,H⟩|⟨a,H⟩
 ·exact .of_left (intBits_le_64 a H)
 ·exact .of_right (intBits_le_64 a H)
 ·exact .of_le (PySem.intBits_le_iff.mpr a) (PySem.intBits_le_iff.mpr H) (by decide)
def two_pow_nn (k:Nat):(0:Int)<=2 ^ k:=by rw[two_pow_cast];exact Int.natCast_nonneg _
def dA:qU X (binaryOp .Add) (Zt λi j=>.int (i+j)):=Va λ_ _ _ _ _ _ _ q=>add_int q
def dC:qU X (binaryOp .Sub) (Zt λi j=>.int (i-j)):=Va λ_ _ _ _ _ _ _ q=>sub_int q
def dD:qU X (binaryOp .Mult) (rI Wz λi j=>.int (i * j)):=Kl λ_ _ _ _ _ _ _ h q=>mul_int q h.ok
def dE:qU X (binaryOp .Mod) (rI (λ_ j=>0<j) λi j=>.int (i%j)):=Kl λi j _ _ _ _ _ h q=>by have H:(0:Int)<j:=h;exact mod_int' (by lia) (by rw[Int.fmod_eq_emod_of_nonneg i (by lia)];exact q)
def dF:qU X (binaryOp .Pow) (rI SN λi j=>.int (i ^ j.toNat)):=Kl λ_ _ _ _ _ _ _ h q=>pow_int_small h.1 h.2.1 h.2.2 q
def dG:qU X (binaryOp .LShift) (rI SN λi j=>.int (i * 2 ^ j.toNat)):=Kl λ_ _ _ _ _ _ _ h q=>lshift_int_small h.1 h.2.1 h.2.2 q
def dH:qU X (binaryOp .RShift) (rI (λ_ j=>0<=j) λi j=>.int (i/2 ^ j.toNat)):=Kl λi j _ _ _ _ _ h q=>
 rshift_int h (by rw[Int.fdiv_eq_ediv_of_nonneg i (two_pow_nn _)];exact q)
def dJ:qU X (binaryOp .BitAnd) (Zt λi j=>.int (Builtin.bitAnd i j)):=Va λ_ _ _ _ _ _ _ q=>and_int q
def dM:qU X (binaryOp .BitXor) (Zt λi j=>.int (Builtin.bitXor i j)):=Va λ_ _ _ _ _ _ _ q=>xor_int q
def dN {f:Value->Sem Value}{g:Int->Int}
  (e:∀(i:Int)(t:Tok)(s:Shared)(Q:bY)(E:bY),Q (.int (g i) s.toks) { s with toks:=s.toks+1 }->wpAny (model X.prog X.w) X.A (f (.int i t)) Q E s):
  Vr X f (rU λi=>.int (g i)):=by
 intro p s a H x v Q I r h;obtain⟨i,rfl,q⟩:=h;obtain⟨t,rfl⟩:=r;exact e i t s _ _ ⟨.int (g i),H,I.tok _,⟨_,rfl⟩,q⟩
def Mf:Vr X (unaryOp .USub) (rU λi=>.int (-i)):=dN λ_ _ _ _ _ q=>neg_int q
variable {c:Expr}{tc:TE}
def dO {a:St}{H:Hp}{s:Shared}{Q:VK}{k K:Bool}(I:Inv X o6 a H s)(q:Q (.bl k) H)(e:k=K):EP X o6 a Q (.bool K) s:=by subst e;exact⟨.bl k,H,I,rfl,q⟩
def dP:qU X (compareOp .Lt) (Zt λi j=>.bl (decide (i<j))):=XQ λ_ _ _ _ _ _ _ q=>lt_int q
def dQ:qU X (compareOp .LtE) (Zt λi j=>.bl (decide (i<=j))):=XQ λ_ _ _ _ _ _ _ q=>le_int q
def dR:qU X (compareOp .Gt) (Zt λi j=>.bl (decide (j<i))):=XQ λ_ _ _ _ _ _ _ q=>gt_int q
def dS:qU X (compareOp .GtE) (Zt λi j=>.bl (decide (j<=i))):=XQ λ_ _ _ _ _ _ _ q=>ge_int q
def BY:qU X (compareOp .IsNot) (λx y H Q=>y=.non/\Q (.bl (!decide (x=.non))) H):=by
 intro p s b H x y v u Q I r a h;obtain⟨rfl,q⟩:=h;cases a;refine isnot_none_gen (dO I q ?_);cases x<;>first
  |(cases r;rfl)
  |(obtain⟨t,rfl⟩:=r;rfl)
def qU.or {f:Value->Value->Sem Value}{r c:R2}(h:qU X f r)(e:qU X f c):qU X f (λx y H Q=>r x y H Q∨c x y H Q):=by
 intro p s d H x y v u Q I b a q;rcases q with q|q
 ·exact h p s d H x y v u Q I b a q
 ·exact e p s d H x y v u Q I b a q
def Aq {r:R2}(o:qU X (compareOp op) r)(f:PE X a ta)(e:PE X b tb)(l:behindInMarks op b=false):PE X (.Compare a [op] [b] o7) (WM r ta tb):=by intro p s j H Q I h;exact wpAny_Compare1 (SR f e I h λv u S x y g i d c q=>o p S j g x y v u Q i d c q) l
def My (t:TE):TT:=λa H Q=>t a H λx h=>∃k,x=.bl k/\Q k h
def Aj {r:R2}(o:qU X (compareOp op) r)(n:PE X a ta)(l:PE X b tb)(E:behindInMarks op b=false):PT X (.Compare a [op] [b] o7) (My (WM r ta tb)):=by
 intro P s C H Q I h;refine wpAny_isTrue_Compare1 (zU (n P s C H _ I h) λv D ⟨x,J,w,g,j⟩=>zU (l P D C J _ w j) λu S ⟨y,B,t,f,i⟩=>
  zU (o P S C B x y v u _ t g f i) λc K ⟨z,A,p,d,k,e,q⟩=>?_) E
 subst e;cases d;exact wpAny_truthy_bool ⟨A,p,q⟩
def T4 (r a:R2)(T tb t:TE):TE:=λd H Q=>T d H λx e=>tb d e λy c=>r x y c λz h=>∃k,z=.bl k/\
 (if k=true then t d h λw b=>a y w b Q else Q (.bl false) h)
def Bn {o:CmpOp}{r i:R2}(C:qU X (compareOp op) r)(f:qU X (compareOp o) i)(J:PE X a ta)(E:PE X b tb)(D:PE X c tc)
  (hm:lastMarks [op,o] [b,c]=false:=by with_unfolding_all rfl):PE X (.Compare a [op,o] [b,c] o7) (T4 r i ta tb tc):=by
 intro S s T H Q I h;refine Compare_chain (zU (J S s T H _ I h) λv s1 ⟨x,H1,M,p,B⟩=>chain_link (zU (E S s1 T H1 _ M B) λu s2 ⟨y,P,L,g,A⟩=>
  zU (C S s2 T P x y v u _ L p g A) λd Y ⟨z,l,j,n,k,e,q⟩=>?_)) hm
 subst e;cases n;refine wpAny_truthy_bool ?_;cases k with|false=>exact ite_ff ⟨.bl false,l,j,rfl,q⟩|true=>exact ite_tt (chain_last (zU (D S Y T l _ j q) λw U ⟨Z,N,K,r4,t⟩=>f S U T N y Z u w Q K g r4 t))
def D7 {o:CmpOp}{r i:R2}(J:qU X (compareOp op) r)(f:qU X (compareOp o) i)(M:PE X a ta)(L:PE X b tb)(K:PE X c tc)
  (hm:lastMarks [op,o] [b,c]=false:=by with_unfolding_all rfl):PT X (.Compare a [op,o] [b,c] o7) (My (T4 r i ta tb tc)):=by
 intro o6 s σ H Q I h;refine isTrue_chain (zU (M o6 s σ H _ I h) λv s1 ⟨x,H1,Y,t,D⟩=>test_link (zU (L o6 s1 σ H1 _ Y D) λu s2 ⟨y,H2,U,g,C⟩=>
  zU (J o6 s2 σ H2 x y v u _ U t g C) λd s3 ⟨z,l,j,p,k,e,q⟩=>?_)) hm
 subst e;cases p;refine wpAny_truthy_bool ?_;cases k with
 |false=>
  obtain⟨k',P,E⟩:=q;cases P;exact ite_ff ⟨l,j,E⟩
 |true=>
  refine ite_tt (test_last (zU (K o6 s3 σ l _ j q) λw s4 ⟨Z,H4,T,r4,B⟩=>zU (f o6 s4 σ H4 y Z u w _ T g r4 B) λd' s5 ⟨z2,H5,S,n,k2,N,A⟩=>?_));subst N;cases n;exact wpAny_truthy_bool ⟨H5,S,A⟩
def YQ:(sizeLine:Nat)<2 ^ 63:=by rw[sizeLine_eq];decide
def vals1 {x:V}(r:Vals [x] us):∃u,us=[u]/\RelV x u:=by
 cases r with|cons b a=>cases a;exact⟨_,rfl,b⟩
def vals2 {x y:V}(r:Vals [x,y] us):∃u w,us=[u,w]/\RelV x u/\RelV y w:=by
 cases r with
 |cons c b=>
  cases b with|cons a d=>cases d;exact⟨_,_,rfl,c,a⟩
def DQ (c:X.calm=true):yB X (.builtin "max") (λx H Q=>∃i j,x=[.int i,.int j]/\Q (.int (if j > i then j else i)) H):=by
 intro p s b H x U Q I r h;obtain⟨i,j,rfl,q⟩:=h;obtain⟨u,w,rfl,⟨t,rfl⟩,⟨d,rfl⟩⟩:=vals2 r;refine max_two_ints (I.ok.hd c) λe T k=>⟨_,H,I.kept k,?_,q⟩
 by_cases a:j > i
 ·rw[ai a,ai a];exact⟨_,rfl⟩
 ·rw[aj a,aj a];exact⟨_,rfl⟩
def Dp (c:X.calm=true):yB X (.builtin "min") (λx H Q=>∃i j,x=[.int i,.int j]/\Q (.int (if j<i then j else i)) H):=by
 intro p s b H x U Q I r h;obtain⟨i,j,rfl,q⟩:=h;obtain⟨u,w,rfl,⟨t,rfl⟩,⟨d,rfl⟩⟩:=vals2 r;refine min_two_ints (I.ok.hd c) λe T k=>⟨_,H,I.kept k,?_,q⟩
 by_cases a:j<i
 ·rw[ai a,ai a];exact⟨_,rfl⟩
 ·rw[aj a,aj a];exact⟨_,rfl⟩
def DO:yB X (.type "int") (λx H Q=>(∃i,x=[.int i]/\Q (.int i) H)∨∃k,x=[.bl k]/\Q (.int (if k then 1 else 0)) H):=by
 intro p s b H x U Q I r h;rcases h with ⟨i,rfl,q⟩|⟨k,rfl,q⟩
 ·obtain⟨u,rfl,t,rfl⟩:=vals1 r
  exact call_int_int ⟨.int i,H,I,⟨_,rfl⟩,q⟩
 ·obtain⟨u,rfl,a⟩:=vals1 r
  cases a;exact call_int_bool ⟨.int (if k then 1 else 0),H,I.tok _,⟨_,rfl⟩,q⟩
end
structure S6 (h:Heap)(x dx C:Addr)(mA:b0):Prop where
 obj:h.get? x=some (instObj C dx)
 ns:h.Ns1 dx mA
 ne:dx≠x
def DY {D:Addr}{M:b0}(n:h.Ns1 D M):∃d,h.get? D=some d/\∀name,lookIn name d=some (M name):=by
 obtain⟨o,E,p,c,i,f,_,g⟩:=n;refine⟨o,c,λname=>?_⟩;have e:=g name;unfold nsFind findBy at e;rw[<- Array.find?_toList]at e;unfold lookIn;rw[i];dsimp only
 split
 ·rename_i y q
  rw[q]at e;exact congrArg some e
 ·rename_i q
  rw[q]at e;have a:E.toList.any (·.refKey)=false:=by rw[List.any_eq_false];intro y b;obtain⟨z,t,H⟩:=f y (Array.mem_toList_iff.mp b);simp[DictEntry.refKey,H]
  have A:¬E.toList.any (·.refKey)=true:=by rw[a];exact aH
  rw[aj A];exact congrArg some e
def S6.look {x d C:Addr}{M:b0}(I:S6 h x d C M):∃o,PySem.W.InstAt h x (instObj C d) C (some o)/\∀name,lookIn name o=some (M name):=
 let ⟨o,H,l⟩:=DY I.ns
 ⟨o,⟨I.obj,rfl,rfl,H⟩,l⟩
def QI.some_of {v:V}{o:Option Value}(r:QI (some v) o):∃u,o=some u/\RelV v u:=by
 cases o with|none=>exact(show False from r).elim|some u=>exact⟨u,rfl,r⟩
section
variable {H:Hp}{C dx:Addr}{fs:List (Str×V)}
def dU (b:jj P w H h)(e:H a=some (.ins C dx fs)):∃M,S6 h a dx C M/\(∀f,QI (fs.lookup f) (M f))/\PySem.Within M (fs.map (·.1))/\fs.length<=1000/\H dx=some (.own a):=by
 obtain⟨d,z,N,ob,M,n,r,q⟩:=(show qZ P w H h a (.ins C dx fs) from b a _ e)
 exact⟨M,⟨ob,n,N⟩,r,q,z,d⟩
end
structure gu (K:Frag)(C:Addr):Prop where
 pg:plainGet K C Str.empty=true
 hd:PySem.W.hasDictIn K C=true
 po:PySem.W.plainOver K C=true
 sa:PySem.W.findIn K (.ref C) "__setattr__"=some (some (.builtin "object.__setattr__"))
def gu.get {K:Frag}{C:Addr}(c:gu K C)(f:Str):plainGet K C f=true:=c.pg
section
variable {X:Cx}{σ:St}{H:Hp}{s:Shared}{A:Around}{c:Value}{b:Bool}
inductive gR (K:Frag)(H:Hp):V->Value->Prop where
 |non:gR K H .non (.type "NoneType")
 |bl (x:Bool):gR K H (.bl x) (.type "bool")
 |int (i:Int):gR K H (.int i) (.type "int")
 |str (x:Str):gR K H (.str x) (.type "str")
 |flt (x:UInt64):gR K H (.flt x) (.type "float")
 |lst {a:Addr} {xs:List V} (e:H a=some (.lst xs)):gR K H (.ref a) (.type "list")
 |frz {a:Addr} {o:Obj} {xs:List V} (e:H a=some (.frz o (.lst xs))):gR K H (.ref a) (.type "list")
 |tup {a:Addr} {xs:List V} (e:H a=some (.tup xs)):gR K H (.ref a) (.type "tuple")
 |dK {a:Addr} {kvs:List (Key×V)} (e:H a=some (.dK kvs)):gR K H (.ref a) (.type "dict")
 |dT {a:Addr} {kvs:List (List Key×V)} (e:H a=some (.dT kvs)):gR K H (.ref a) (.type "dict")
 |ins {a C dx:Addr} {fs:List (Str×V)} (e:H a=some (.ins C dx fs)) (cl:gu K C) (ha:PySem.W.findIn K (.ref C) "__class__"=some (some (.builtin "object.__class__")))
   (hn:PySem.W.specialIn K (.builtin "object.__class__") "__get__"=some (some (.builtin "getset_descriptor.__get__"))) (htk:PySem.W.takesIn K (.builtin "object.__class__")=some true)
   (hm:PySem.W.mroIn K C (.type "object")=some true):gR K H (.ref a) (.ref C)
def PN {x:V}{t:Value}(I:Inv X o6 σ H s)(r:RelV x u)(ty:gR X.K H x t)(e:kitOne X.K t c=some b)(h:∀T,Q (.bool b) { s with toks:=T }):
  wpAny (model X.prog X.w) A (call (.builtin "isinstance") [u,c]) Q E s:=by
 cases ty with
 |non=>cases (show u=Value.none from r);exact bD kitx_none I.kIn True.intro e (λz=>nomatch z) h
 |bl y=>cases (show u=Value.bool y from r);exact bD kitx_bool I.kIn True.intro e (λz=>nomatch z) h
 |int i=>obtain⟨t,q⟩:=(show ∃t,u=Value.int i t from r);cases q;exact bD kitx_int I.kIn True.intro e (λz=>nomatch z) h
 |str y=>obtain⟨t,q⟩:=(show ∃t,u=Value.str y t from r);cases q;exact bD kitx_str I.kIn True.intro e (λz=>nomatch z) h
 |flt y=>obtain⟨t,q⟩:=(show ∃t,u=Value.float y t from r);cases q;exact bD kitx_float I.kIn True.intro e (λz=>nomatch z) h
 |@lst a xs ea=>
  cases (show u=Value.ref a from r)
  obtain⟨_,_,n,_,v⟩:=(show qZ X.prog X.w H s.heap a (.lst xs) from I.hok a _ ea)
  exact bD kitx_list I.kIn ⟨_,v,rfl⟩ e (λz=>nomatch z) h
 |@frz a ob xs ea=>
  cases (show u=Value.ref a from r)
  obtain⟨_,_,_,n,_,v⟩:=(show qZ X.prog X.w H s.heap a (.frz ob (.lst xs)) from I.hok a _ ea)
  exact bD kitx_list I.kIn ⟨_,v,rfl⟩ e (λz=>nomatch z) h
 |@tup a xs ea=>
  cases (show u=Value.ref a from r)
  obtain⟨_,_,_,p⟩:=(show qZ X.prog X.w H s.heap a (.tup xs) from I.hok a _ ea)
  obtain⟨o,v,B,_⟩:=p;exact bD kitx_tuple I.kIn ⟨o,v,B.1⟩ e (λz=>nomatch z) h
 |@dK a kvs ea=>
  cases (show u=Value.ref a from r)
  obtain⟨_,_,D,_,p⟩:=(show qZ X.prog X.w H s.heap a (.dK kvs) from I.hok a _ ea)
  obtain⟨o,g,j,v,B,_⟩:=p;exact bD kitx_dict I.kIn ⟨o,v,B.1⟩ e (λz=>nomatch z) h
 |@dT a kvs ea=>
  cases (show u=Value.ref a from r)
  obtain⟨_,_,xs,_,o,g,j,v,B,_⟩:=(show qZ X.prog X.w H s.heap a (.dT kvs) from I.hok a _ ea)
  exact bD kitx_dict I.kIn ⟨o,v,B.1⟩ e (λz=>nomatch z) h
 |@ins a C dx fs ea cl f hn d hm=>
  cases (show u=Value.ref a from r)
  obtain⟨M,O,_⟩:=dU I.hok ea;obtain⟨l,J,_⟩:=O.look;exact bD (PySem.W.kitx_own (cl.get _) cl.hd f hn d hm) I.kIn J e (λz=>nomatch z) h
end
structure jd (k:Nat)(A:Around):Prop where
 hd:A.handled=none
 dp:A.depth+3 * k+5<recursionLimit
 un:A.units+16 * k+200<cLine
 gd:A.guards=some []
def jd.mono {j k:Nat}{A:Around}(r:jd k A)(h:j<=k):jd j A:=⟨r.hd,by have:=r.dp;lia,by have:=r.un;lia,r.gd⟩
theorem jd.deeper {k:Nat}{A:Around}(r:jd (k+1) A)(e:Env):jd k (A.deeper e):=
 ⟨r.hd,by have:=r.dp;show A.depth+1+3 * k+5<_;lia,by have:=r.un;show A.units+3+16 * k+200<_;lia,r.gd⟩
theorem jd.depth {k:Nat}{A:Around}(r:jd k A):A.depth<recursionLimit:=by have:=r.dp;lia
theorem jd.units {k:Nat}{A:Around}(r:jd k A):A.units+64<cLine:=by have:=r.un;lia
def SO:TA:=λ_ H Q=>Q [] H
def XC (t:TE)(tr:TA):TA:=λa H Q=>t a H λx b=>tr a b λX h=>Q (x::X) h
section
variable {X:Cx}{es:bZ}{te:TE}{t:TA}
def yn:PA X [] SO:=λ_ _ _ _ H Q I h=>Calls.spliced_nil ⟨[],H,I,.nil,h⟩
def jt (f:PE X e te)(d:PA X es t)(c:starEach (e::es) X.env=(false,eval e X.env)::starEach es X.env:=by rfl):PA X (e::es) (XC te t):=by intro P p s l H Q I h;rw[c];show wpAny _ _ (spliced ((false,eval e X.env)::backTo P (starEach es X.env))) _ _ s;refine Calls.spliced_cons (zU (f p s l H _ I h) λu S ⟨x,o,g,a,b⟩=>?_);exact zU (d P p S l o _ g b) λU v ⟨n,j,i,r,q⟩=>⟨x::n,j,i,.cons a r,q⟩
def dV (t:TA):TE:=λa H Q=>t a H λx h=>x.length<=sizeLine/\∀p,h p=none->Q (.ref p) (upd h p (.tup x))
def dW (t:TA):TE:=λa H Q=>t a H λx h=>x.length<=sizeLine/\∀p,h p=none->Q (.ref p) (upd h p (.lst x))
def NZ {x1}(h:PA X es t):PE X (.Tuple es x1 o7) (dV t):=by
 intro p s d H Q I a;refine wpAny_Tuple_spliced (zU (h o7 p s d H _ I a) λU S ⟨x,c,i,r,z,q⟩=>⟨by rw[<- r.length];exact z,?_⟩)
 have f:c S.heap.objs.size=none:=i.hok.fresh (ao _);refine⟨.ref S.heap.objs.size,upd c S.heap.objs.size (.tup x),i.laid (t':=S.toks) (λb u e=>ag _ e) (ao _) ?_,rfl,q _ f⟩;exact⟨z,U,r,⟨_,aD _ rfl,⟨rfl,rfl⟩,_,rfl⟩⟩
def dX (h:PA X es t):PE X (.List es o7) (dW t):=by
 intro p s d H Q I a;refine wpAny_List_spliced (zU (h o7 p s d H _ I a) λU S ⟨x,c,i,r,z,q⟩=>⟨by rw[<- r.length];exact z,?_⟩)
 have f:c S.heap.objs.size=none:=i.hok.fresh (ao _);refine⟨.ref S.heap.objs.size,upd c S.heap.objs.size (.lst x),i.laid (t':=S.toks) (λb u e=>ag _ e) (ao _) ?_,rfl,q _ f⟩;exact⟨z,U,0,r,aD _ rfl⟩
end
abbrev Sp:=List V->Hp->VK->XK->Prop
abbrev Zw:=List Env->Hp->Shared->XK->Value->Shared->Prop
structure J4 (P:Program)(w:World)(K:Frag)(mg:b0)(base:Heap)(A:Around)(outer:b8)(s:Shared)(H:Hp):Prop where
 frames:A.frames=some outer
 mod:Mod K mg base
 bs:∀b o,base.get? b=some o->s.heap.get? b=some o/\H b=none
 bsz:base.objs.size<=s.heap.objs.size
 funs:s.heap.FunFrames base outer
 frf:∀b∈qJ outer,H b=none
 hok:jj P w H s.heap
 bare:AllBare s.gens
inductive CE (outer:b8)(P:Program)(w:World)(H:Hp)(s:Shared)(Q:VK)(u:Value)(s':Shared):Prop
 |mk (v:V) (H':Hp) (os:s'.os=s.os) (b:AllBare s'.gens) (un:Un (qJ outer) [] H H' s.heap s'.heap) (hk:jj P w H' s'.heap) (r:RelV v u) (q:Q v H')
def CR (C:Zw)(o:b8)(P:Program)(w:World)(H:Hp)(s:Shared)(Q:VK)(E:XK)(r:Result)(S:Shared):Prop:=
 match r with|.ok (.ret u)=>CE o P w H s Q u S|.ok _=>False|.error e=>C o H s E e S
structure yt (P:Program)(w:World)(K:Frag)(mg:b0)(base:Heap)(CX:Zw)(k:Nat)(f:Addr)(fd:FuncData)(ps:bX)(sp:Sp):Prop where
 len:∀vs H Q E,sp vs H Q E->vs.length=ps.length
 run:∀(A:Around)(outer:b8)(s:Shared)(H:Hp)(args:Args)(us:bS)(vs:List V)(Q:VK)(E:XK),jd k A->J4 P w K mg base A outer s H->BindsTo s fd args (ps.zip us)->Vals vs us->sp vs H Q E->
  codeAny (model P w) A (.call (.ref f) args) (CR CX outer P w H s Q E) s
theorem yt.mono {K:Frag}{C:Zw}{j k:Nat}{fd:FuncData}{ps:bX}{S:Sp}(F:yt P w K mg base C j f fd ps S)(h:j<=k):
  yt P w K mg base C k f fd ps S:=⟨F.len,λA o s H a u v Q E r=>F.run A o s H a u v Q E (r.mono h)⟩
def yt.imp {K:Frag}{C:Zw}{k:Nat}{fd:FuncData}{ps:bX}{p S:Sp}(F:yt P w K mg base C k f fd ps p)
  (h:∀vs H Q E,S vs H Q E->p vs H Q E):yt P w K mg base C k f fd ps S:=
 ⟨λvs H Q E q=>F.len vs H Q E (h _ _ _ _ q),λA o s H c u vs Q E r e b v a=>F.run A o s H c u vs Q E r e b v (h _ _ _ _ a)⟩
section
variable {X:Cx}{σ:St}{H:Hp}{s:Shared}
def Inv.env0 (I:Inv X o6 σ H s):J4 X.prog X.w X.K X.mg X.base X.A X.stack s H:=
 ⟨I.ok.frames,I.ok.mod,I.bs,a4 I.ok.bsz I.sz,I.stack,I.stkFree,I.hok,I.bare⟩
def Inv.after {Q:VK}(I:Inv X o6 σ H s)(h:CE X.stack X.prog X.w H s Q u s'):EP X o6 σ Q u s':=by obtain⟨v,c,f,B,un,e,r,q⟩:=h;obtain⟨a,g,d,t,o⟩:=s';obtain rfl:o=s.os:=f;exact⟨v,c,I.call (h':=a) (g':=g) (d':=d) (t':=t) (ch:=[]) un e B (λb z=>absurd z (by simp)),r,q⟩
end
def dY (S:Sp)(d:List V)(E:XK)(t:TA):TE:=λa H Q=>t a H λv h=>S (v++d) h Q E
def Binds (K:Frag)(fd:FuncData)(ps:bX)(d:bS):Prop:=
 ∀(s:Shared)(us:bS),K.In s.heap->(us++d).length=ps.length->BindsTo s fd ⟨us,[]⟩ (ps.zip (us++d))
def Binds.all {K:Frag}{fd:FuncData}{ps:bX}(h:∀us:bS,us.length=ps.length->bindArgs fd ⟨us,[]⟩=pure (ps.zip us)):Binds K fd ps []:=λs us _ H=>by rw[aX]at H ⊢;exact .of_eq (h us H)
def Passes (C:Zw)(X:Cx)(E:XK):Prop:=∀(o6:bV)(σ:St)(H:Hp)(s:Shared)(e:Value)(s':Shared),Inv X o6 σ H s->C X.stack H s E e s'->X.xe e s'
section
variable {X:Cx}{CX:Zw}{k:Nat}{fd:FuncData}{ps:bX}{sp:Sp}{dvs:List V}{ds:bS}{E:XK}{es:bZ}{t:TA}
def dZ {g:St}{H:Hp}{s:Shared}{Q:VK}{v:List V}(F:yt X.prog X.w X.K X.mg X.base CX k f fd ps sp)(b:jd k X.A)(c:Binds X.K fd ps ds)(i:Vals dvs ds)(x:Passes CX X E)
  (I:Inv X o6 g H s)(r:Vals v us)(h:sp (v++dvs) H Q E):wpAny (model X.prog X.w) X.A (call (.ref f) us) (EP X o6 g Q) X.xe s:=by
 have a:Vals (v++dvs) (us++ds):=r.append i;have l:(us++ds).length=ps.length:=by rw[<- a.length];exact F.len _ _ _ _ h
 refine wpAny_call (codeAny_mono (F.run X.A X.stack s H ⟨us,[]⟩ (us++ds) (v++dvs) Q E b I.env0 (c s us I.kIn l) a h) λr S q=>?_);cases r with
 |error e=>exact x o6 g H s e S I q|ok d=>
  cases d with|ret u=>exact I.after q|next=>exact False.elim q|brk=>exact False.elim q|cont=>exact False.elim q
def O3 (F:yt X.prog X.w X.K X.mg X.base CX k f fd ps sp)(c:jd k X.A)(g:Gl X x)(u:X.mg x=some (.ref f))(d:keepIn X.K (.ref f)=true)(j:Binds X.K fd ps ds)(y:Vals dvs ds)(a:Passes CX X E)
  (n:PA X (e::es) t)(b:(x==("__debug__":Str))=false:=by decide)(v:starEach (e::es) X.env=(false,eval e X.env)::starEach es X.env:=by rfl)(l:(backTo o7 (starEach es X.env)).any (·.1)=false:=by rfl):
  PE X (.Call (.Name x p) (e::es) [] o7) (dY sp dvs E t):=by
 intro P s o H Q I h;refine wpAny_Call_Name_kw (YF I g u ?_ b);refine callWith_K (h₀:=X.base) I.ok.mod.kin d (zU (n o7 P s o H _ I h) λU S ⟨z,B,i,r,q⟩=>⟨i.kIn,?_⟩) v l;exact dZ F c j y a i r q
end
structure wy (N P:bX)(sc:Scope):Prop where
 kind:sc.kind=.function
 co:sc.isCoroutine=false
 gen:sc.isGenerator=false
 nd:N.Nodup
 pre:N.take P.length=P
 par:∀x∈P,sc.names.lookup x=some .local∨sc.names.lookup x=some .cell
 nofree:∀y∈sc.names,y.2≠.free
theorem PY {K:Str->Option NameKind}:∀{binds:List (Str×Value)}{m:b0},(∀v,(x,v)∉binds)->bindL K binds m x=m x
 |[],_,_=>rfl|(n,v)::r,m,h=>by
  unfold bindL;rw[PY λw H=>h w (aA _ H)]
  split
  ·have:x≠n:=by rintro rfl;exact h v aG
   simp[this]
  ·rfl
theorem PH {K:Str->Option NameKind}:∀{binds:List (Str×Value)}{m:b0},(∀v,(x,v)∉binds)->bindC K binds m x=m x
 |[],_,_=>rfl|(n,v)::r,m,h=>by
  unfold bindC;rw[PH λw H=>h w (aA _ H)]
  split
  ·rfl
  ·have:x≠n:=by rintro rfl;exact h v aG
   simp[this]
theorem P6 {K:Str->Option NameKind}{v:Value}:∀{P:bX}{b:bS}{i:Nat}{m:b0},P.Nodup->P[i]? =some x->b[i]? =some v->K x=some .local->
  bindL K (P.zip b) m x=some v
 |[],_,_,_,_,h,_,_=>by simp at h|_::_,[],_,_,_,_,h,_=>by simp at h|p::P,w::b,0,m,nd,h1,h2,H=>by simp at h1 h2;subst h1;subst h2;show bindL K ((p,w)::P.zip b) m p=_;unfold bindL;rw[PY λv a=>(List.nodup_cons.mp nd).1 (of_mem_zip a).1,ai H];simp
 |p::P,w::b,i+1,m,nd,h1,h2,H=>by show bindL K ((p,w)::P.zip b) m x=_;unfold bindL;exact P6 (i:=i) (List.nodup_cons.mp nd).2 (by simpa using h1) (by simpa using h2) H
theorem PR {K:Str->Option NameKind}{v:Value}:∀{P:bX}{b:bS}{i:Nat}{m:b0},P.Nodup->P[i]? =some x->b[i]? =some v->K x≠some .local->
  bindC K (P.zip b) m x=some v
 |[],_,_,_,_,h,_,_=>by simp at h|_::_,[],_,_,_,_,h,_=>by simp at h|p::P,w::b,0,m,nd,h1,h2,H=>by simp at h1 h2;subst h1;subst h2;show bindC K ((p,w)::P.zip b) m p=_;unfold bindC;rw[PH λv a=>(List.nodup_cons.mp nd).1 (of_mem_zip a).1,aj H];simp
 |p::P,w::b,i+1,m,nd,h1,h2,H=>by show bindC K ((p,w)::P.zip b) m x=_;unfold bindC;exact PR (i:=i) (List.nodup_cons.mp nd).2 (by simpa using h1) (by simpa using h2) H
def start (N:bX)(v:List V):St:=v.map some++List.replicate (N.length-v.length) none
def kg (C:Zw)(P:Program)(w:World)(K:Frag)(M:b0)(b:Heap)(N:bX)(qual:Str)(scope:Scope)(f:Addr)(c:Value)(A:Around)(o:b8)(s:Shared)(H:Hp)(E:XK):Cx where
 prog:=P
 w:=w
 K:=K
 mg:=M
 base:=b
 A:=A.deeper (envOfC qual scope s.heap.objs.size f c)
 N:=N
 s0:=s
 H0:=H
 env:=envOfC qual scope s.heap.objs.size f c
 outer:=o
 stack:=envOfC qual scope s.heap.objs.size f c::o
 ex:=[]
 calm:=true
 fn:=λ_=>true
 pn:=[]
 xe:=λe d=>wpAny (model P w) (A.deeper (envOfC qual scope s.heap.objs.size f c)) (leaving (envOfC qual scope s.heap.objs.size f c) e) (λ_ S=>C o H s E e S) (λa S=>C o H s E a S) d
def Oh (h:sc.names.lookup x=some .cell):∃c,(cellsFrom n sc.names []).lookup x=some c:=by have q:=cellsFrom_some sc.names n [] (.inl h);exact Option.isSome_iff_exists.mp q
def DS {X:Zw}{K:Frag}{ps:bX}{cd:Value}{A:Around}{Q:b8}{s s1:Shared}{H:Hp}{E:XK}{Y:List V}
  (S:wy N ps scope)(hd:A.handled=none)(d:J4 P w K mg base A Q s H)(L:Y.length=ps.length)(r:Vals Y us)
  (x:InCallC s s.heap.objs.size (bindL (envOfC qual scope s.heap.objs.size f cd).kindOf (ps.zip us) λ_=>none) (cellsFrom (s.heap.objs.size+1) scope.names []) (bindC (envOfC qual scope s.heap.objs.size f cd).kindOf (ps.zip us) λ_=>none) s1):
  Inv (kg X P w K mg base N qual scope f cd A Q s H E) [] (start N Y) H s1:=by
 have I:ps.length<=N.length:=by have:=congrArg List.length S.pre;rw[a6]at this;lia
 obtain⟨Z,T,rfl,C⟩:=x.done;have g:∀b:Addr,b∉(kg X P w K mg base N qual scope f cd A Q s H E).ex:=λb z=>absurd (show b∈([]:bU) from z) (by simp)
 refine⟨⟨d.mod,S.kind,rfl,rfl,ao _,λy z c Z U=>?_,λy j=>?_,λy c _ h=>?_,λ_=>hd,Around.frames_deeper d.frames,.inr ⟨rfl,rfl⟩,λb z=>absurd z (g b),d.bs,d.bsz,λb _ _=>g b,λb z=>absurd z (g b),d.funs,d.frf⟩,
  rfl,d.bare,Un.kept C,⟨_,x.toInCall.ns,λi y v Z U M=>?_⟩,λy c h=>⟨_,x.cell y c h⟩,d.hok.fresh (ao _),λy c h=>?_,λp o=>absurd (show p∈([]:bV) from o) (by simp),d.hok.kept C,?_⟩
 ·exact name_of_addr x.apart (PySem.mem_of_lookup Z) (PySem.mem_of_lookup U)
 ·have j:scope.names.lookup y=some .cell∨scope.names.lookup y=some .free:=j
  rcases j with j|j
  ·exact Oh j
  ·exact absurd rfl (S.nofree _ (PySem.mem_of_lookup j))
 ·exact bL (x.above y c (PySem.mem_of_lookup h))
 ·have t:i<Y.length:=by
   unfold start at U
   by_cases t:i<Y.length
   ·exact t
   ·rw[ar (by simpa using t)]at U
    rw[bg]at U
    split at U<;>cases U
  have J:Y[i]? =some v:=by
   unfold start at U;rw[ah (by simpa using t),ay]at U
   cases e:Y[i]? with|none=>rw[e]at U;cases U|some a=>rw[e]at U;cases U;rfl
  obtain⟨u,B,D⟩:=r.get J;have o:ps[i]? =some y:=by rw[<- S.pre,List.getElem?_take_of_lt (by lia)];exact Z
  have l:ps.Nodup:=by rw[<- S.pre];exact S.nd.sublist (List.take_sublist _ _)
  refine⟨u,D,?_⟩;rcases S.par y (mem_of_getElem? o) with k|k
  ·exact .inl ⟨k,P6 l o B k⟩
  ·obtain⟨c,e⟩:=Oh (n:=s.heap.objs.size+1) k
   refine .inr ⟨.inl k,c,e,?_⟩;have q:=x.cell y c e;rw[PR l o B (by show scope.names.lookup y≠_;rw[k];decide)]at q
   exact q
 ·exact d.hok.fresh (bL (x.above y c (PySem.mem_of_lookup h)))
 ·unfold start
  show _=N.length;rw[au,af,bq];lia
def T7 {C:Zw}{K:Frag}{k:Nat}{name:Str}{params:Arguments}{D kV doc pm c ct M:Value}{an L:cf}
  {ps:bX}{sp:Sp}(lk:K.lookup f=some ⟨M,L,.func (fnOf name qual params body scope D kV doc pm an c ct),oR⟩)(B:codeIn K c qual=true)(S:wy N ps scope)
  (len:∀vs H Q E,sp vs H Q E->vs.length=ps.length)
  (g:∀(A:Around)(outer:b8)(s:Shared)(H:Hp)(vs:List V)(Q:VK)(E:XK),jd k (A.deeper (envOfC qual scope s.heap.objs.size f c))->sp vs H Q E->
   ∃t,yV (kg C P w K mg base N qual scope f c A outer s H E) body t/\t { nx:=λ_ h=>Q .non h,rt:=Q } (start N vs) H):
  yt P w K mg base C (k+1) f (fnOf name qual params body scope D kV doc pm an c ct) ps sp:=by
 refine⟨len,λA outer s H args us vs Q E z j Z r p=>?_⟩;have Y:=len _ _ _ _ p;have X:K.In s.heap:=j.mod.kin.keeps λb o e=>(j.bs b o e).1;have lim:s.heap.NoLimit:=j.mod.nolimit.keeps λb o e=>(j.bs b o e).1;have d:∀y∈ps.zip us,scope.names.lookup y.1=some .local∨(scope.names.lookup y.1=some .cell/\((cellsFrom (s.heap.objs.size+1) scope.names []).lookup y.1).isSome=true):=λ⟨n,v⟩ T=>by
  rcases S.par n (of_mem_zip T).1 with q|q
  ·exact .inl q
  ·exact .inr ⟨q,cellsFrom_some _ _ _ (.inl q)⟩
 refine codeAny_call_function z.depth (X _ _ lk) rfl S.co S.gen rfl (PySem.W.codeRec_of X B) (Z _ _ _ _ ?_);refine wpAny_newFunctionEnv_cells S.kind d λenv he s1 x=>?_;subst he;refine⟨lim.keeps x.toInCall.keep,codeAny_func ?_⟩;obtain⟨t,ht,U⟩:=g A outer s H vs Q E (z.deeper _) p;have I:Inv (kg C P w K mg base N qual scope f c A outer s H E) [] (start N vs) H s1:=DS S z.hd j Y r x;refine wpAny_mono (ht [] s1 (start N vs) H _ I U) (λfl s' i=>?_) λe s' i=>i;have fin:∀{a:St}{h:Hp}{v:V}{u:Value},Inv (kg C P w K mg base N qual scope f c A outer s H E) [] a h s'->RelV v u->Q v h->CE outer P w H s Q u s':=
  λ {a h v u} J l q=>⟨v,h,J.os,J.bare,J.base,J.hok,l,q⟩
 cases fl with
 |ret u=>
  obtain⟨v,a,h,J,l,q⟩:=i;exact fin J l q
 |next=>
  obtain⟨a,h,J,q⟩:=i;exact fin (v:=V.non) (u:=Value.none) J rfl q
 |brk=>
  obtain⟨_,_,_,q⟩:=i;exact False.elim q
 |cont=>
  obtain⟨_,_,_,q⟩:=i;exact False.elim q
section
variable {X:Cx}{es:bZ}{t:TA}{id T:String}{r:List V->Hp->VK->Prop}
def Vh (r:List V->Hp->VK->Prop)(t:TA):TE:=λa H Q=>t a H λv h=>r v h Q
def Q0 (c:yB X (.builtin id) r)(g:Gl X x)(o:X.mg x=none)(v:bootBuiltins x=some (.builtin id))(d:PA X (e::es) t)(n:x ≠ "__name__":=by decide)(b:(x==("__debug__":Str))=false:=by decide)
  (w:starEach (e::es) X.env=(false,eval e X.env)::starEach es X.env:=by rfl)(l:(backTo o7 (starEach es X.env)).any (·.1)=false:=by rfl):PE X (.Call (.Name x p) (e::es) [] o7) (Vh r t):=by
 intro P s f H Q I h;refine wpAny_Call_Name_kw (Qu I g o v ?_ n b);exact PyProof.Rows.callWith_builtin1 (zU (d o7 P s f H _ I h) λu S ⟨j,y,i,a,q⟩=>c P S f y j u Q i a q) w l
def KH (c:yB X (.type T) r)(g:Gl X x)(o:X.mg x=none)(v:bootBuiltins x=some (.type T))(d:PA X (e::es) t)(n:x ≠ "__name__":=by decide)(b:(x==("__debug__":Str))=false:=by decide)
  (w:starEach (e::es) X.env=(false,eval e X.env)::starEach es X.env:=by rfl)(l:(backTo o7 (starEach es X.env)).any (·.1)=false:=by rfl):PE X (.Call (.Name x p) (e::es) [] o7) (Vh r t):=by
 intro P s f H Q I h;refine wpAny_Call_Name_kw (Qu I g o v ?_ n b);exact PyProof.Rows.callWith_type1 (zU (d o7 P s f H _ I h) λu S ⟨j,y,i,a,q⟩=>c P S f y j u Q i a q) w l
end
end L2
variable {X:L2.Cx}{o:L2.HO}{H:L2.Hp}{kvs:List (L2.Key×L2.V)}{vs xs ys:List L2.V}{r:List L2.V->L2.Hp->L2.VK->Prop}{PK:PySem.Obj->PySem.Addr->PySem.Obj->List L2.V->Prop}{σ:L2.St}{v:L2.V}
namespace HT
open PySem PyProof.Rows
section
open PySem.SeqAt
open PySem.AutoSeq1 (wpAny_loadPart')
open PySem.MeetsSeq PySem.MeetsSeq2 PySem.MeetsSeq3
end
section
variable {prog:Program}{A:Around}{s:Shared}
def Ap {t:Addr}{g f:bS}(r:IsTup s.heap t g.toArray)(a:IsTup s.heap b f.toArray)(v:g≠[])
  (x:f=[]->Q (.ref t) s)(u:f≠[]->Q (.ref s.heap.objs.size) { s with heap:=s.heap.push { cls:=.type "tuple",data:=.seq (g++f).toArray } })
  (z:g.length+f.length<=sizeLine):wpAny (model prog w) A (binaryOp .Add (.ref t) (.ref b)) Q E s:=by
 obtain⟨⟨y,q,data,l⟩,o,c,n,p⟩:=id r;obtain⟨⟨C,d,D,S⟩,h,H,N,i⟩:=id a;simp only at c p H i;subst c p H i;have e:g.toArray++f.toArray=(g++f).toArray:=by simp
 by_cases j:f=[]
 ·exact concat_meets ⟨_,o,rfl⟩ ⟨_,h,rfl⟩ noFill_tuple_add seq_tuple_add slot_tuple_add entry_tuple_add (args_tuple_add_2 _ _)
   (tuple_addW1 t b g.toArray f.toArray n N q d l S (by simpa using v) (by simp[j])) ⟨o,h,x j⟩
 ·refine concat_meets ⟨_,o,rfl⟩ ⟨_,h,rfl⟩ noFill_tuple_add seq_tuple_add slot_tuple_add entry_tuple_add (args_tuple_add_2 _ _)
   (tuple_addW2 t b g.toArray f.toArray n N q d l S (by simpa using v) (by simpa using j) (by rw[aI,aI];exact z)) ⟨o,h,?_⟩
  rw[e];exact u j
noncomputable def yU (n d:Nat):Option Int->Nat
 |none=>d|some v=>if v<0 then(v+(n:Int)).toNat else min v.toNat n
def Ck (n d:Nat):yU n d none=d:=rfl
def O1 (n d k:Nat):yU n d (some (k:Int))=min k n:=by
 show(if (k:Int)<0 then((k:Int)+(n:Int)).toNat else min (k:Int).toNat n)=min k n;rw[aj (by lia),aB]
end
end HT
namespace L2
open PySem PySem.Spec PyProof.Rows
abbrev TO:=St->Hp->(Option Int->Hp->Prop)->Prop
def PO (X:Cx)(e:Option Expr)(t:TO):Prop:=
 ∀(o6:bV)(s:Shared)(σ:St)(H:Hp)(Q:Option Int->Hp->Prop),Inv X o6 σ H s->t σ H Q->
  wpAny (model X.prog X.w) X.A (evalPart e X.env) (λu S=>∃o h,Inv X o6 σ h S/\IsPart u o/\Q o h) X.xe s
def Ao:TO:=λ_ H Q=>Q none H
def d0 (t:TE):TO:=λa H Q=>t a H λx h=>∃i,x=.int i/\Q (some i) h
section
variable {te:TE}{lo hi:Option Expr}{tl th:TO}{p2:Pos}
def B8:PO X none Ao:=by intro p s a H Q I h;rw[evalPart_none];exact cn ⟨none,H,I,.none,h⟩
def d2 (h:PE X e te):PO X (some e) (d0 te):=by intro p s c H Q I w;rw[evalPart_some];refine zU (h p s c H _ I w) λu S ⟨x,d,b,r,a⟩=>?_;obtain⟨i,rfl,q⟩:=a;obtain⟨t,rfl⟩:=r;exact⟨some i,d,b,.int i t,q⟩
def L8 (X:Cx)(r:V->Option Int->Option Int->Hp->VK->Prop):Prop:=
 ∀(o6:bV)(s:Shared)(σ:St)(H:Hp)(x:V)(v l u:Value)(lo hi:Option Int)(S:Addr)(Q:VK),Inv X o6 σ H s->RelV x v->s.heap.IsSliceOf S l u .none->IsPart l lo->IsPart u hi->r x lo hi H Q->
  ∃T id,typeLookup (.type T) "__getitem__"=pure (some (.builtin id))/\s.TypeIs v T/\wpAny (model X.prog X.w) X.A (getItem v (.ref S)) (EP X o6 σ Q) X.xe s
def d4 (r:V->Option Int->Option Int->Hp->VK->Prop)(T:TE)(t c:TO):TE:=λb H Q=>T b H λx d=>t b d λl a=>c b a λu h=>r x l u h Q
def Bq {r:V->Option Int->Option Int->Hp->VK->Prop}(o:L8 X r)(U:PE X e te)(t:PO X lo tl)(n:PO X hi th):PE X (.Subscript e (.Slice lo hi none p2) o7) (d4 r te tl th):=by
 intro P s J H Q I h;refine Subscript_ (zU (U P s J H _ I h) λv L ⟨x,Y,D,f,j⟩=>?_);refine wpAny_Slice (zU (t P L J Y _ D j) λc K ⟨l,E,C,p,i⟩=>zU (n P K J E _ C i) λa S ⟨u,d,B,M,g⟩=>?_);rw[evalPart_none];refine cn ?_;have z:Inv X P J d { S with heap:=S.heap.push { cls:=.type "slice",data:=.fields #[c,a,.none] } }:=B.kept (t':=S.toks) λb ob q=>ag _ q
 obtain⟨T,id,hT,N,y⟩:=o P { S with heap:=S.heap.push { cls:=.type "slice",data:=.fields #[c,a,.none] } } J d x v c a l u S.heap.objs.size Q z f (Heap.IsSliceOf.new ..) p M g
 show wpAny (model X.prog X.w) X.A (subscriptTail e (.Slice lo hi none p2) v (.ref S.heap.objs.size)) (EP X P J Q) X.xe { S with heap:=S.heap.push { cls:=.type "slice",data:=.fields #[c,a,.none] } }
 exact tail_any (ops:=[.ref S.heap.objs.size,v]) N hT y (by with_unfolding_all rfl)
def Y6 (x:List V)(l h:Option Int):List V:=(x.drop (HT.yU x.length 0 l)).take (HT.yU x.length x.length h-HT.yU x.length 0 l)
def F9 (x:List V)(l h:Option Int):(Y6 x l h).length<=x.length:=by unfold Y6;rw[a6,bw];lia
def ML (K:Frag):R2:=λx y H Q=>∃a b X Y,x=.ref a/\y=.ref b/\qF K H a X/\qF K H b Y/\X≠[]/\X.length+Y.length<=sizeLine/\
 (Y=[]->Q (.ref a) H)/\(Y≠[]->∀p,H p=none->Q (.ref p) (upd H p (.tup (X++Y))))
def Vals.nil_iff (r:Vals xs us):us=[]↔xs=[]:=by
 cases r with|nil=>simp|cons _ _=>simp
def d6:qU X (binaryOp .Add) (ML X.K):=by
 intro B s D H x y v u Q I f e h;obtain⟨a,b,C,Y,rfl,rfl,A,t,n,d,j,g⟩:=h;cases f;cases e;obtain⟨l,c,P,_⟩:=I.tuple A;obtain⟨i,r,p,_⟩:=I.tuple t;refine HT.Ap P p (λz=>n (c.nil_iff.mp z)) (λz=>⟨.ref a,H,I,rfl,j (r.nil_iff.mp z)⟩) (λz=>?_) (by rw[<- c.length,<- r.length];exact d)
 refine⟨.ref s.heap.objs.size,_,I.laid (t':=s.toks) (o:=.tup (C++Y)) (λb ob q=>ag _ q) (ao _) ?_,rfl,g (λw=>z (r.nil_iff.mpr w)) _ (I.hok.fresh (ao _))⟩;exact⟨by rw[au];exact d,_,c.append r,Ja.new _ _⟩
end
noncomputable def Zo (n:Nat)(i:Int):Option Nat:=if 0<=i then(if i<n then some i.toNat else none) else if -(n:Int)<=i then some (i+n).toNat else none
def gw (x:List α)(i:Int):Option α:=(Zo x.length i).bind λj=>x[j]?
def OZ {i:Int}{j:Nat}(h:Zo n i=some j):seqIndex? i n=some j/\j<n/\-(n:Int)<=i/\i<n:=by
 unfold Zo at h
 by_cases a:0<=i
 ·rw[ai a]at h
  by_cases H:i<n
  ·rw[ai H]at h
   have e:i.toNat=j:=aC h;exact⟨by rw[seqIndex_of a H,e],by lia,by lia,H⟩
  ·rw[aj H]at h;cases h
 ·rw[aj a]at h
  by_cases H:-(n:Int)<=i
  ·rw[ai H]at h
   have e:(i+n).toNat=j:=aC h;exact⟨by rw[seqIndex_neg (by lia) H,e],by lia,H,by lia⟩
  ·rw[aj H]at h;cases h
def Tf {x:List α}{i:Int}{v:α}(h:gw x i=some v):∃j,seqIndex? i x.length=some j/\x[j]? =some v/\j<x.length/\-(x.length:Int)<=i/\i<x.length:=by
 unfold gw at h;cases e:Zo x.length i with
 |none=>rw[e]at h;cases h|some j=>
  rw[e]at h;obtain⟨c,b,a,H⟩:=OZ e;exact⟨j,c,h,b,a,H⟩
def GV {x:List α}{j:Nat}{v:α}(h:x[j]? =some v):gw x (j:Int)=some v:=by
 have H:j<x.length:=(cu.mp h).1;have e:Zo x.length (j:Int)=some j:=by unfold Zo;rw[ai (by lia),ai (by lia)];simp
 unfold gw;rw[e];exact h
def Na (b:Expr):Prop:=∀o i,subscripted b false o i=operate [o,i] (getItem o i)
def QQ (X:Cx)(r:R2):Prop:=
 ∀(value slice:Expr)(o6:bV)(s:Shared)(σ:St)(H:Hp)(x y:V)(v u:Value)(Q:VK),Inv X o6 σ H s->RelV x v->RelV y u->r x y H Q->
  subscripted slice false v u=operate [v,u] (getItem v u)->wpAny (model X.prog X.w) X.A (subscriptTail value slice v u) (EP X o6 σ Q) X.xe s
def Ki (X:Cx)(id:String)(r:V->List V->Hp->VK->Prop):Prop:=
 ∀(o6:bV)(s:Shared)(σ:St)(H:Hp)(x:V)(xs:List V)(v:Value)(us:bS)(Q:VK),Inv X o6 σ H s->RelV x v->Vals xs us->r x xs H Q->
  wpAny (model X.prog X.w) X.A (call (.builtin id) (v::us)) (EP X o6 σ Q) X.xe s
section
variable {a b:Expr}{ta tb:TE}
def QQ.or {r c:R2}(h:QQ X r)(g:QQ X c):QQ X (λx y H Q=>r x y H Q∨c x y H Q):=by
 intro e S p s f H x y v u Q I b a q d;rcases q with q|q
 ·exact h e S p s f H x y v u Q I b a q d
 ·exact g e S p s f H x y v u Q I b a q d
def d7 {r:R2}(f:QQ X r)(i:PE X a ta)(g:PE X b tb)(e:Na b):PE X (.Subscript a b o7) (WM r ta tb):=by intro p s n H Q I h;exact Subscript_ (SR i g I h λv u S x y l j d c q=>f a b p S n l x y v u Q j d c q (e _ _))
def Ld (K:Frag):R2:=λx y H Q=>∃p X i v,x=.ref p/\y=.int i/\q9 K H p X/\gw X i=some v/\Q v H
def Lj (K:Frag):R2:=λx y H Q=>∃p X i v,x=.ref p/\y=.int i/\qF K H p X/\gw X i=some v/\Q v H
def Lh:R2:=λx y H Q=>∃z i c,x=.str z/\y=.int i/\z.length<=sizeLine/\gw z.cps.toList i=some c/\Q (.str ⟨#[c]⟩) H
def d8:QQ X (Ld X.K):=by
 intro L S D s M H x y v u Q I g f h d;obtain⟨p,Z,i,z,rfl,rfl,l,U,q⟩:=h;cases g;obtain⟨t,rfl⟩:=f;obtain⟨b,r,P,B⟩:=I.list l;obtain⟨j,J,Y,C,A,o⟩:=Tf U;obtain⟨w,e,a⟩:=r.get Y;have n:=r.length;have hn:=YQ;have E:EP X D M Q w s:=⟨z,H,I,a,q⟩
 by_cases N:0<=i
 ·have c:i.toNat=j:=by rw[seqIndex_of N o]at J;exact aC J
  exact item_listR P.isList N (by lia) (by rw[c];simpa using e) E d
 ·have c:(i+(b.toArray.size:Int)).toNat=j:=by
   rw[seqIndex_neg (by lia) A]at J
   rw[aI,<- n];exact aC J
  exact subscriptTail_builtinR (x:=w) P.isList.typeIs slot_list_getitem.lookup
   (wpAny_getItem_list_neg (Q:=λr T=>r=w/\EP X D M Q r T) P.isList (by lia) (by rw[aI]<;>lia) (by lia) (by rw[c];simpa using e) ⟨rfl,E⟩) d
def d9:QQ X (Lj X.K):=by
 intro C S B s J H x y v u Q I c b h e;obtain⟨p,U,i,z,rfl,rfl,f,M,q⟩:=h;cases c;obtain⟨t,rfl⟩:=b;obtain⟨d,r,P,g⟩:=I.tuple f;obtain⟨j,T,N,A,o,n⟩:=Tf M;obtain⟨w,E,a⟩:=r.get N;have l:=r.length;have Y:=YQ;have D:EP X B J Q w s:=⟨z,H,I,a,q⟩;exact subscriptTail_builtinR (x:=w) P.typeIs slot_tuple_getitem.lookup
  (getItem_tuple (j:=j) (Q:=λr L=>r=w/\EP X B J Q r L) P (by lia) (by lia) (by rw[aI,<- l];exact T) (by simpa using E) ⟨rfl,D⟩) e
def eb:QQ X Lh:=by
 intro o S p s C H x y v u Q I a r h b;obtain⟨z,i,c,rfl,rfl,g,A,q⟩:=h;obtain⟨t,rfl⟩:=a;obtain⟨T,rfl⟩:=r;obtain⟨j,w,B,n,e,d⟩:=Tf A;have l:z.cps.toList.length=z.length:=by simp[Str.length]
 rw[l]at w e d;have D:=YQ;exact tail_any (typeIs_str s z t) slot_str_getitem.lookup (getItem_str (c:=c) (by
  have f:decide (i < -(2 ^ 63:Int))=false:=aE (by lia)
  have E:decide (i ≥ 2 ^ 63)=false:=aE (by lia)
  rw[f,E,Bool.or_false]) (by rw[w];simpa using B) ⟨.str ⟨#[c]⟩,H,I.tok _,⟨_,rfl⟩,q⟩) b
def L5 (K:Frag):R2:=λx y H Q=>Ld K x y H Q∨Lj K x y H Q∨Lh x y H Q
def ed:QQ X (L5 X.K):=d8.or (d9.or eb)
def Es (i:bS)(n j:Nat)(u:Value):Obj.mapSeq (·.setIfInBounds j u) { cls:=.type "list",data:=.seq i.toArray n }={ cls:=.type "list",data:=.seq (i.set j u).toArray n }:=by simp[Obj.mapSeq]
theorem Inv.lst {P:bV}{a:St}{H:Hp}{s:Shared}{p:Addr}{x:List V}(I:Inv X P a H s)(h:H p=some (.lst x)):
  ∃(i:bS) (n:Nat),Vals x i/\s.heap.get? p=some { cls:=.type "list",data:=.seq i.toArray n }/\x.length<=sizeLine:=by
 obtain⟨z,i,n,r,e⟩:=I.hok p _ h;exact⟨i,n,r,e,z⟩
def Inv.lstUpd {s:Shared}{p:Addr}{i:bS}{N:Nat}{f:Obj->Obj}(I:Inv X o6 σ H s)(h:H p=some (.lst xs))
  (o:s.heap.get? p=some { cls:=.type "list",data:=.seq oE.toArray n })(c:f { cls:=.type "list",data:=.seq oE.toArray n }={ cls:=.type "list",data:=.seq i.toArray N })(r:Vals ys i)(z:ys.length<=sizeLine)(t:Nat):
  Inv X o6 σ (upd H p (.lst ys)) { s with heap:=s.heap.update p f,toks:=t }:=by
 have e:(s.heap.update p f).get? p=some { cls:=.type "list",data:=.seq i.toArray N }:=by rw[Heap.get?_update_self f o (by rw[c]<;>rfl),c]
 refine I.write (x:=p) (e:=p) (by rw[h];trivial) (.inl rfl) (λb u a q=>(br _ _ (Ne.symm a)).trans q) ⟨_,e⟩ ?_
 exact⟨z,i,N,r,e⟩
def MB:V->V->V->Hp->(Hp->Prop)->Prop:=λo i v H Q=>∃p x k j,o=.ref p/\i=.int k/\H p=some (.lst x)/\Zo x.length k=some j/\Q (upd H p (.lst (x.set j v)))
def set_list:X2 X MB:=by
 intro P s E H o i v A B u Q I ro x w h;obtain⟨p,J,k,j,rfl,rfl,d,y,q⟩:=h;cases ro;obtain⟨t,rfl⟩:=x;obtain⟨a,n,r,b,z⟩:=I.lst d;obtain⟨C,L,f,e⟩:=OZ y;have l:=r.length;have K:=YQ;have g:Inv X P E (upd H p (.lst (J.set j v))) { s with heap:=s.heap.update p (Obj.mapSeq (·.setIfInBounds j u)) }:=
  I.lstUpd d b (Es a n j u) (r.set w j) (by rw[bF];exact z) s.toks
 by_cases D:0<=k
 ·have c:k.toNat=j:=by rw[seqIndex_of D e]at C;exact aC C
  exact PySem.W.ki_setAt b D (by lia) (by rw[aI,<- l];exact e) (by rw[c];exact⟨_,g,q⟩)
 ·have c:(k+(a.toArray.size:Int)).toNat=j:=by
   rw[seqIndex_neg (by lia) f]at C
   rw[aI,<- l];exact aC C
  exact PySem.W.ki_setBack b (by lia) (by rw[aI,<- l];exact f) (by lia) (by rw[c];exact⟨_,g,q⟩)
def Fy (l H:Option Int)(n:Nat):(sliceBounds l H none n).1=((HT.yU n 0 l:Nat):Int)/\(sliceBounds l H none n).2.1=((HT.yU n n H:Nat):Int)/\(sliceBounds l H none n).2.2=1:=by
 refine⟨?_,?_,rfl⟩
 ·cases l with
  |none=>simp[sliceBounds,HT.yU]|some i=>
   simp only[sliceBounds,HT.yU,getD_none,show(1:Int) > 0 by decide,if_true]
   by_cases h:i<0
   ·simp only[h,if_true]<;>lia
   ·simp only[h,if_false]<;>lia
 ·cases H with
  |none=>simp[sliceBounds,HT.yU]|some i=>
   simp only[sliceBounds,HT.yU,getD_none,show(1:Int) > 0 by decide,if_true]
   by_cases h:i<0
   ·simp only[h,if_true]<;>lia
   ·simp only[h,if_false]<;>lia
def HJ (i:bS)(l h:Option Int):slicePick i.toArray l h none=((i.drop (HT.yU i.length 0 l)).take (HT.yU i.length i.length h-HT.yU i.length 0 l)).toArray:=by obtain⟨b,a,H⟩:=Fy l h i.toArray.size;unfold slicePick;rw[b,a,H];simp only[sliceRange_one,pick_run,aI]<;>rfl
def ee (K:Frag):V->Option Int->Option Int->Hp->VK->Prop:=λx l h H Q=>∃a X,x=.ref a/\q9 K H a X/\∀p,H p=none->Q (.ref p) (upd H p (.lst (Y6 X l h)))
def AR:L8 X (ee X.K):=by
 intro P s w H x v l u L i S Q I c f p j h;obtain⟨a,g,rfl,e,q⟩:=h;cases c;obtain⟨d,r,t,z⟩:=I.list e;have n:=r.length;refine⟨"list",_,slot_list_getitem.lookup,t.isList.typeIs,?_⟩;refine wpAny_getItem_list_slice t.isList f p j .none (by simp) ?_ (by rw[aI]<;>lia)
 rw[HJ,<- n];refine⟨.ref s.heap.objs.size,_,I.laid (t':=s.toks) (o:=.lst (Y6 g L i)) (λb ob q=>ag _ q) (ao _) ?_,rfl,q _ (I.hok.fresh (ao _))⟩;exact⟨a4 (F9 g L i) z,_,0,(r.drop (HT.yU g.length 0 L)).take (HT.yU g.length g.length i-HT.yU g.length 0 L),aD _ rfl⟩
def wN:V->Bool
 |.non=>true|.bl _=>true|.int _=>true|.str _=>true|_=>false
noncomputable def g7:V->V->Bool
 |.non,.non=>true|.bl a,.bl b=>a==b|.bl a,.int b=>(if a then 1 else 0)==b|.int a,.bl b=>a==(if b then 1 else 0)|.int a,.int b=>a==b|.str a,.str b=>a==b|_,_=>false
def eg {A:Around}{s:Shared}{y x:V}{v:Value}(c:RelV y u)(r:RelV x v)(d:wN y=true)(f:wN x=true):SeqAt.EqAt A s u v (g7 y x):=by
 cases y with
 |non=>
  cases c;cases x with|non=>cases r;exact SeqAt.EqAt.same _|bl b=>cases r;exact SeqAt.EqAt.none_bool b|int b=>obtain⟨t,rfl⟩:=r;exact SeqAt.EqAt.none_int b t|str b=>obtain⟨t,rfl⟩:=r;exact SeqAt.EqAt.none_str b t|_=>exact absurd (show false=true from f) aH
 |bl a=>
  cases c;cases x with|non=>cases r;exact SeqAt.EqAt.bool_none a|bl b=>cases r;exact SeqAt.EqAt.bool_bool a b|int b=>obtain⟨t,rfl⟩:=r;exact SeqAt.EqAt.bool_int a b t|str b=>obtain⟨t,rfl⟩:=r;exact SeqAt.EqAt.bool_str a b t|_=>exact absurd (show false=true from f) aH
 |int a=>
  obtain⟨T,rfl⟩:=c;cases x with|non=>cases r;exact SeqAt.EqAt.int_none a T|bl b=>cases r;exact SeqAt.EqAt.int_bool a T b|int b=>obtain⟨t,rfl⟩:=r;exact SeqAt.EqAt.int_int a T b t|str b=>obtain⟨t,rfl⟩:=r;exact SeqAt.EqAt.int_str a T b t|_=>exact absurd (show false=true from f) aH
 |str a=>
  obtain⟨T,rfl⟩:=c;cases x with|non=>cases r;exact SeqAt.EqAt.str_none a T|bl b=>cases r;exact SeqAt.EqAt.str_bool a T b|int b=>obtain⟨t,rfl⟩:=r;exact SeqAt.EqAt.str_int a T b t|str b=>obtain⟨t,rfl⟩:=r;exact SeqAt.EqAt.str_str a T b t|_=>exact absurd (show false=true from f) aH
 |_=>exact absurd (show false=true from d) aH
def Zv (x:V)(u:Value):Bool:=match u with|.none=>g7 .non x|.bool b=>g7 (.bl b) x|.int i _=>g7 (.int i) x|.str z _=>g7 (.str z) x|_=>false
def Tq {x y:V}(r:RelV y u)(f:wN y=true):Zv x u=g7 y x:=by
 cases y with|non=>cases r;rfl|bl b=>cases r;rfl|int i=>obtain⟨t,rfl⟩:=r;rfl|str z=>obtain⟨t,rfl⟩:=r;rfl|_=>exact absurd (show false=true from f) aH
theorem U0 {x:V}:∀{X:List V}{U:bS},Vals X U->X.all wN=true->U.any (Zv x)=X.any λy=>g7 y x
 |_,_,.nil,_=>rfl|y::X,u::U,.cons r t,f=>by rw[all_cons,ak]at f;rw[any_cons,any_cons,Tq r f.1,U0 t f.2]
theorem KN {A:Around}{s:Shared}{x:V}{v:Value}(a:RelV x v)(b:wN x=true):∀{X:List V}{c:bS},Vals X c->X.all wN=true->∀u∈c,SeqAt.EqAt A s u v (Zv x u)
 |_,_,.nil,_=>λu h=>by cases h|y::X,u::c,.cons r t,f=>λU h=>by
  rw[all_cons,ak]at f;rcases cw.mp h with rfl|h
  ·rw[Tq r f.1];exact eg r a f.1 b
  ·exact KN a b t f.2 U h
def Vv (x:V)(X:List V):Bool:=X.any λy=>g7 y x
def LJ (K:Frag)(n:Bool):R2:=λx y H Q=>∃p X,y=.ref p/\(q9 K H p X∨qF K H p X)/\wN x=true/\X.all wN=true/\Q (.bl (if n then !Vv x X else Vv x X)) H
def EW:qU X (compareOp .In) (LJ X.K false):=by
 intro e s g H x y v u Q I b c h;obtain⟨p,j,rfl,a,f,fs,q⟩:=h;cases c;rcases a with a|a
 ·obtain⟨i,r,P,z⟩:=I.list a
  refine SeqAt.in_listAt (Zv x) P.isList (λw d=>KN b f r fs w (by simpa using d)) ⟨.bl _,H,I,rfl,?_⟩
  rw[show i.toArray.any (Zv x)=i.any (Zv x) by simp,U0 r fs]
  exact q
 ·obtain⟨i,r,P,z⟩:=I.tuple a
  refine SeqAt.in_tupleAt (Zv x) P (λw d=>KN b f r fs w (by simpa using d)) ⟨.bl _,H,I,rfl,?_⟩
  rw[show i.toArray.any (Zv x)=i.any (Zv x) by simp,U0 r fs]
  exact q
def Ff:yB X (.builtin "len") (λc H Q=>∃p y,c=[.ref p]/\(q9 X.K H p y∨qF X.K H p y)/\Q (.int y.length) H):=by
 intro d s e H c U Q I r h;obtain⟨p,y,rfl,a,q⟩:=h;obtain⟨u,rfl,x⟩:=vals1 r;cases x;have f:=YQ;rcases a with a|a
 ·obtain⟨i,b,P,z⟩:=I.list a
  have n:=b.length;exact Calls.call_len_list P.isList (by simp only[aI]<;>lia) ⟨.int y.length,H,I.tok _,⟨s.toks+1,by rw[aI,n]⟩,q⟩
 ·obtain⟨i,b,P,z⟩:=I.tuple a
  have n:=b.length;exact len_tuple P (by simp only[aI]<;>lia) ⟨.int y.length,H,I.tok _,⟨s.toks+1,by rw[aI,n]⟩,q⟩
def Fx:yB X (.type "list") (λA H Q=>∃p y,A=[.ref p]/\(q9 X.K H p y∨qF X.K H p y)/\∀l,H l=none->Q (.ref l) (upd H l (.lst y))):=by
 intro i s C H A U Q I r h;obtain⟨p,y,rfl,d,q⟩:=h;obtain⟨u,rfl,x⟩:=vals1 r;cases x;have t:∀(oE:bS),Vals y oE->y.length<=sizeLine->∀(h':Heap)(c:Nat),(∀b B,s.heap.get? b=some B->h'.get? b=some B)->
   h'.get? s.heap.objs.size=some { cls:=.type "list",dict:=none,data:=.seq oE.toArray c,slots:=#[] }->EP X i C Q (.ref s.heap.objs.size) { s with heap:=h' }:=λoE a z h' c kp e=>
  ⟨.ref s.heap.objs.size,_,I.laid (t':=s.toks) kp (ao _) (show qZ X.prog X.w _ h' _ (.lst y) from ⟨z,oE,c,a,e⟩),rfl,q _ (I.hok.fresh (ao _))⟩
 rcases d with d|d
 ·obtain⟨oE,a,P,z⟩:=I.list d
  have j:=a.length;obtain⟨o,f,g,n,v⟩:=P.isList;exact call_list_seq p (.inl rfl) f g v (λh' c kp e=>t oE a z h' c kp e) (by simp only[aI]<;>lia)
 ·obtain⟨oE,a,P,z⟩:=I.tuple d
  have j:=a.length;obtain⟨o,f,g,n,v⟩:=P;exact call_list_seq p (.inr rfl) f g v (λh' c kp e=>t oE a z h' c kp e) (by simp only[aI]<;>lia)
def HC:yB X (.type "tuple") (λt H Q=>∃p y,t=[.ref p]/\((q9 X.K H p y/\∀l,H l=none->Q (.ref l) (upd H l (.tup y)))∨(qF X.K H p y/\Q (.ref p) H))):=by
 intro g s n H t U Q I r h;obtain⟨p,y,rfl,h⟩:=h;obtain⟨u,rfl,x⟩:=vals1 r;cases x;rcases h with ⟨c,q⟩|⟨c,q⟩
 ·obtain⟨i,a,P,z⟩:=I.list c
  have v:=a.length;refine call_tuple_list P.isList (λj kp=>?_) (by simp only[aI]<;>lia)
  have d:Inv X g n H { s with heap:=j }:=I.kept (t':=s.toks) kp
  have f:Inv X g n (upd H j.objs.size (.tup y)) { s with heap:=j.push { cls:=.type "tuple",data:=.seq i.toArray } }:=
   d.laid (t':=s.toks) (λb o e=>ag _ e) (ao _) (show qZ X.prog X.w _ _ _ (.tup y) from ⟨z,i,a,Ja.new _ _⟩)
  exact⟨.ref j.objs.size,_,f,rfl,q _ (d.hok.fresh (ao _))⟩
 ·obtain⟨i,a,P,z⟩:=I.tuple c
  exact call_tuple_same P ⟨.ref p,H,I,rfl,q⟩
def Vg (K:Frag)(T:String)(x:V)(H:Hp):Prop:=match x with
 |.str _=>T = "str"
 |.int _=>T = "int"
 |.ref p=>(T = "list" /\ ∃X,q9 K H p X)∨(T = "tuple" /\ ∃o,K.lookup p=some o/\o.cls=.type "tuple" /\ o.dict=none)∨
   (T = "dict" /\ ((∃a,H p=some (.dK a))∨∃a,H p=some (.dT a)))∨(T = "set" /\ ∃S n,H p=some (.set S n))
 |_=>False
def eh {s:Shared}{T:String}{x:V}{v:Value}(I:Inv X o6 σ H s)(r:RelV x v)(ty:Vg X.K T x H):
  s.TypeIs v T/\∀a,v=.ref a->∃ob,s.heap.get? a=some ob/\ob.dict=none:=by
 cases x with
 |str z=>
  obtain⟨t,rfl⟩:=r;cases (show T = "str" from ty)
  exact⟨typeIs_str s z t,λ_ e=>nomatch e⟩
 |int i=>
  obtain⟨t,rfl⟩:=r;cases (show T = "int" from ty)
  exact⟨typeIs_int s i t,λ_ e=>nomatch e⟩
 |ref p=>
  cases r;rcases ty with ⟨rfl,j,q⟩|⟨rfl,o,h,d,hd⟩|⟨rfl,h⟩|⟨rfl,S,n,h⟩
  ·obtain⟨b,_,P,_⟩:=I.list q
   refine⟨P.isList.typeIs,λa e=>?_⟩;cases e;obtain⟨o,n,e,c,hd,_⟩:=P;exact⟨o,e,hd⟩
  ·refine⟨⟨o,I.kIn p o h,d⟩,λa e=>?_⟩
   cases e;exact⟨o,I.kIn _ o h,hd⟩
  ·have z:∃o,s.heap.get? p=some o/\o.ExactDict:=by
    rcases h with ⟨g,h⟩|⟨g,h⟩
    ·obtain⟨_,_,_,_,o,_,_,e,f,_⟩:=I.hok p _ h
     exact⟨o,e,f⟩
    ·obtain⟨_,_,_,_,o,_,_,e,f,_⟩:=I.hok p _ h
     exact⟨o,e,f⟩
   obtain⟨o,e,f⟩:=z;refine⟨⟨o,e,f.1⟩,λa E=>?_⟩;cases E;exact⟨o,e,f.2.1⟩
  ·obtain⟨o,_,_,_,e,f,_⟩:=I.hok p _ h
   refine⟨⟨o,e,f.1⟩,λa E=>?_⟩;cases E;exact⟨o,e,f.2.1⟩
 |_=>exact False.elim ty
def ej (K:Frag)(T:String)(r:V->List V->Hp->VK->Prop)(to:TE)(t:TA):TE:=λa H Q=>to a H λx b=>Vg K T x b/\t a b λX h=>r x X h Q
variable {o:Expr}{es:bZ}{to:TE}{t:TA}{name:Str}{T id:String}{r:V->List V->Hp->VK->Prop}
def Mq (p:PlainAttrs T)(S:Slot T name id)(y:typeOf (.builtin id)=pure (.type "method_descriptor"))(J:Ki X id r)(j:PE X o to)(l:PA X (e::es) t)
  (b:attributeBase o name X.env (eval o X.env)=eval o X.env:=by rfl)
  (w:((backTo oD (starEach (e::es) X.env)).all (λx=>!x.1)&&(backToKw oD (keywordEach [] X.env)).all (λx=>x.1.isSome)
   && decide ((e::es).length+([]:cb).length+(if ([]:cb).isEmpty then 0 else 1)<30))=true:=by rfl)
  (a:(oH.endLine==oD.line)=true:=by rfl)(g:starEach (e::es) X.env=(false,eval e X.env)::starEach es X.env:=by rfl)(n:(backTo oD (starEach es X.env)).any (·.1)=false:=by rfl):
  PE X (.Call (.Attribute o name oH) (e::es) [] oD) (ej X.K T r to t):=by
 intro P s B H Q I h;refine wpAny_Call_method_late b w a rfl (zU (j P s B H _ I h) λv E ⟨x,N,i,c,ty,f⟩=>?_);obtain⟨M,L⟩:=eh i c ty;refine⟨T,id,p,S,y,M,L,?_⟩;have A:=l oD P E B N _ i f;rw[g]at A ⊢;refine Calls.callWith_builtin (by show(false || (backTo oD (starEach es X.env)).any (·.1))=false;rw[n]<;>rfl) (Calls.evalArgs_plain ?_)
 exact zU A λU D ⟨C,z,u,d,q⟩=>J P D B z x C v U Q u c d q
end
def Rk (X:Cx)(id:String)(r:V->List V->Hp->VK->Prop):Prop:=
 ∀(o6:bV)(s:Shared)(σ:St)(H:Hp)(x:V)(xs:List V)(v:Value)(us:bS)(Q:VK),Inv X o6 σ H s->RelV x v->Vals xs us->r x xs H Q->
  wpAny (model X.prog X.w) X.A (call (.builtin id) (v::us)) (EP X o6 σ Q) X.xe s
def Vals.one {x:V}(h:Vals [x] us):∃u,us=[u]/\RelV x u:=by
 cases h with|cons r t=>cases t;exact⟨_,rfl,r⟩
def Vals.two {x y:V}(h:Vals [x,y] us):∃u v,us=[u,v]/\RelV x u/\RelV y v:=by
 cases h with|cons r t=>exact(Vals.one t).elim λv e=>⟨_,v,by rw[e.1],r,e.2⟩
theorem Vals.zero:∀{u:bS},Vals [] u->u=[]
 |_,.nil=>rfl
theorem Vals.eraseIdx:∀{x:List V}{u:bS}(i:Nat),Vals x u->Vals (x.eraseIdx i) (u.eraseIdx i)
 |_,_,_,.nil=>.nil|_,_,0,.cons _ t=>t|_,_,i+1,.cons r t=>.cons r (Vals.eraseIdx i t)
theorem Vals.rep (h:Vals xs us):∀k:Nat,Vals (List.replicate k xs).flatten (List.replicate k us).flatten
 |0=>.nil|k+1=>by rw[ba,ba,a8,a8];exact Vals.append h (Vals.rep h k)
theorem PM:∀(l:List α)(i:Nat),(l.eraseIdx i).length<=l.length
 |[],_=>ao _|_::_,0=>Nat.le_succ _|_::r,i+1=>Nat.succ_le_succ (PM r i)
theorem foldl_rep (i:bS):∀(k:Nat)(a:bS),
  List.foldl (λx1 x2=>x1++x2) a.toArray (List.replicate k i.toArray)=(a++(List.replicate k i).flatten).toArray
 |0,a=>by simp|k+1,a=>by
  have e:a.toArray++i.toArray=(a++i).toArray:=by simp
  have E:(a++i)++(List.replicate k i).flatten=a++(List.replicate (k+1) i).flatten:=by rw[ba,a8,aP]
  rw[<- E,<- foldl_rep i k (a++i),<- e,ba,List.foldl_cons]
section
variable {s:Shared}{l:Addr}
def Inv.lset {its':bS}{f:Array Value->Array Value}(I:Inv X o6 σ H s)(c:H l=some (.lst xs))
  (e:s.heap.get? l=some { cls:=.type "list",data:=.seq oE.toArray n })(d:f oE.toArray=its'.toArray)(v:Vals ys its')(h:ys.length<=sizeLine):
  Inv X o6 σ (upd H l (.lst ys)) { s with heap:=s.heap.update l (Obj.mapSeq f),toks:=t' }:=by
 have q:=PySem.IsL.update e f;rw[d]at q;refine I.write (x:=l) (e:=l) (by rw[c];exact trivial) (.inl rfl) (λB u b a=>(br s.heap (Obj.mapSeq f) (Ne.symm b)).trans a) ⟨_,q⟩ ?_
 exact⟨h,its',_,v,q⟩
def Inv.lnew (I:Inv X o6 σ H s)(v:Vals ys oE)(h:ys.length<=sizeLine):
  Inv X o6 σ (upd H s.heap.objs.size (.lst ys)) { s with heap:=s.heap.push { cls:=.type "list",data:=.seq oE.toArray },toks:=t' }:=
 I.laid (λ_ _ q=>ag _ q) (ao _) ⟨h,oE,0,v,aD _ rfl⟩
theorem Inv.fresh (I:Inv X o6 σ H s):H s.heap.objs.size=none:=I.hok.fresh (ao _)
def Inv.lstM (I:Inv X o6 σ H s)(h:H l=some (.lst xs)):xs.length<=sizeLine/\∃(i:bS) (n:Nat),Vals xs i/\xs.length=i.length/\s.heap.get? l=some { cls:=.type "list",data:=.seq i.toArray n }:=by obtain⟨z,i,n,r,e⟩:=I.hok l _ h;exact⟨z,i,n,r,r.length,e⟩
def Oi (h:n<=sizeLine):Builtin.List.listTooLong n=false:=by unfold Builtin.List.listTooLong;exact aE (by lia)
end
section
def AV:V->List V->Hp->VK->Prop:=λx v H Q=>∃l X y,x=.ref l/\v=[y]/\H l=some (.lst X)/\X.length<sizeLine/\Q .non (upd H l (.lst (X++[y])))
def P8:Rk X "list.append" AV:=by
 intro p s j H x t v U Q I b c h;obtain⟨l,o,y,rfl,rfl,a,f,q⟩:=h;cases b;obtain⟨u,rfl,d⟩:=c.one;obtain⟨z,i,n,r,g,e⟩:=I.lstM a;refine call_meets F.slot_list_append ⟨_,e,rfl⟩ F.entry_list_append (F.args_list_append_2 _ _) (PySem.list_append l i.toArray n u (by rw[aI];lia)) ⟨e,?_⟩
 refine⟨.non,_,I.lset (its':=i++[u]) a e (by simp) (r.append (.cons d .nil)) ?_,rfl,q⟩
 rw[au,aU];lia
def eu:V->List V->Hp->VK->Prop:=λx v H Q=>∃l b X z,x=.ref l/\v=[.ref b]/\H l=some (.lst X)/\H b=some (.lst z)/\X.length+z.length<=sizeLine/\Q .non (upd H l (.lst (X++z)))
def Du:Rk X "list.extend" eu:=by
 intro P s A H x J v U Q I f j h;obtain⟨l,b,D,C,rfl,rfl,d,B,w,q⟩:=h;cases f;obtain⟨u,rfl,o⟩:=j.one;cases o;obtain⟨z,a,n,r,y,e⟩:=I.lstM d;obtain⟨Z,i,N,p,t,E⟩:=I.lstM B;have c:a.toArray.size+i.toArray.size<=sizeLine:=by rw[aI,aI];lia
 have g:¬(!a.toArray.isEmpty&&Builtin.List.listTooLong (a.toArray.size+i.toArray.size))=true:=by rw[Oi c,Bool.and_false];exact aH
 refine call_meets F.slot_list_extend ⟨_,e,rfl⟩ F.entry_list_extend (F.args_list_extend_2 _ _)
  (AutoSeq1.list_extend_list_list_0 l a.toArray n b i.toArray N g (by rw[aI];lia) (by lia)) ⟨e,E,?_⟩
 refine⟨.non,_,I.lset (its':=a++i) d e (by simp) (r.append p) ?_,rfl,q⟩
 rw[au];lia
def ew:V->List V->Hp->VK->Prop:=λx v H Q=>∃l X i k y,x=.ref l/\v=[.int i]/\H l=some (.lst X)/\-(2 ^ 63)<=i/\i<2 ^ 63/\seqIndex? i X.length=some k/\X[k]? =some y/\Q y (upd H l (.lst (X.eraseIdx k)))
def BM:Rk X "list.pop" ew:=by
 intro P s E H x J v U Q I d f h;obtain⟨l,A,i,k,y,rfl,rfl,c,D,C,p,j,q⟩:=h;cases d;obtain⟨u,rfl,g⟩:=f.one;obtain⟨t,rfl⟩:=g;obtain⟨z,a,n,r,o,e⟩:=I.lstM c;obtain⟨w,B,b⟩:=r.get j;refine call_meets F.slot_list_pop ⟨_,e,rfl⟩ F.entry_list_pop (F.args_list_pop_2 _ _)
  (MeetsSeq.list_pop_at l a.toArray n i t k w (fitsIndex_both D C) (by rw[aI,<- o];exact p) (by rw[<- Array.getElem?_toList];exact B) (by rw[aI];lia)) ⟨e,?_⟩
 refine⟨y,_,I.lset (its':=a.eraseIdx k) c e ?_ (r.eraseIdx k) ?_,b,q⟩
 ·show a.toArray.eraseIdxIfInBounds k=(a.eraseIdx k).toArray
  rw[List.eraseIdxIfInBounds_toArray]
 ·have:=PM A k
  lia
def Ln:R2:=λx y H Q=>∃l b X z,x=.ref l/\y=.ref b/\H l=some (.lst X)/\H b=some (.lst z)/\X.length+z.length<=sizeLine/\∀p,H p=none->Q (.ref p) (upd H p (.lst (X++z)))
def eB:qU X (binaryOp .Add) Ln:=by
 intro w s A H x y v u Q I d c h;obtain⟨l,b,D,C,rfl,rfl,j,B,p,q⟩:=h;cases d;cases c;obtain⟨z,a,n,r,t,e⟩:=I.lstM j;obtain⟨Z,i,N,f,g,o⟩:=I.lstM B;refine PySem.P.add_list e o ?_ (by rw[aI,aI];lia)
 have E:a.toArray++i.toArray=(a++i).toArray:=by simp
 rw[E];exact⟨.ref _,_,I.lnew (t':=s.toks) (r.append f) (by rw[au];lia),rfl,q _ I.fresh⟩
def LA:R2:=λx y H Q=>∃l k X,x=.ref l/\y=.int k/\H l=some (.lst X)/\-(2 ^ 63)<=k/\k<2 ^ 63/\X.length * k.toNat<=sizeLine/\
 ∀p,H p=none->Q (.ref p) (upd H p (.lst (List.replicate k.toNat X).flatten))
def len_rep (x:List α)(k:Nat):(List.replicate k x).flatten.length=k * x.length:=by
 induction k with|zero=>simp|succ k i=>rw[ba,a8,au,i,succ_mul,add_comm]
def eC:qU X (binaryOp .Mult) LA:=by
 intro P s L H x y v u Q I f d h;obtain⟨l,k,M,rfl,rfl,o,J,E,c,q⟩:=h;cases f;obtain⟨t,rfl⟩:=d;obtain⟨z,i,n,r,j,e⟩:=I.lstM o;have B:i.toArray.size * k.toNat<=sizeLine:=by rw[aI,<- j];exact c
 have p:¬i.toArray.size * k.toNat > (2 ^ 63-1)/8:=by
  have:(sizeLine:Nat)<=(2 ^ 63-1)/8:=by decide
  lia
 have b:¬(!Builtin.List.listFitsIndex k)=true:=by rw[fitsIndex_both J E];exact aH
 have g:¬Builtin.List.listTooLong (i.toArray.size * k.toNat)=true:=by rw[Oi B];exact aH
 have w:List.foldl (λD C=>D++C) #[] (List.replicate (if i.toArray.isEmpty=true then 0 else k.toNat) i.toArray)=(List.replicate k.toNat i).flatten.toArray:=by
  have K:∀m:Nat,List.foldl (λD C=>D++C) #[] (List.replicate m i.toArray)=(List.replicate m i).flatten.toArray:=λm=>by
   have:=foldl_rep i m []
   rw[bN]at this;exact this
  rw[K];cases i with|nil=>simp|cons a A=>rw[aj (by simp)]
 refine wpAny_binaryOp_repeat_ref (T := "list") (U := "int") (by decide) ⟨_,e,rfl⟩ (λS=>typeIs_int S k t) noFill_list_mul F.fills_int_mul F.slot_int_rmul repeat_list F.slot_int_index.lookup
  (call_meets F.slot_int_rmul (typeIs_int s k t) F.entry_int_rmul (F.args_int_rmul_2 _ _) (int___rmul___int_list k t l i.toArray n)
   ⟨e,rfl,⟨_,e,rfl⟩,call_meets F.slot_list_mul ⟨_,e,rfl⟩ F.entry_list_mul (F.args_list_mul_2 _ _) (AutoListH.list___mul___list_int_3 l i.toArray n k t b p g) ⟨e,?_⟩⟩)
 rw[w];exact⟨.ref _,_,I.lnew (t':=s.toks) (r.rep k.toNat) (by rw[len_rep,mul_comm];exact c),rfl,q _ I.fresh⟩
end
end L2
namespace Att
open PySem PySem.W PySem.Calls PyProof.Rows
def IM {P:Params}:∀(N:bR)(v:bS),WellAll P h v (N.map WData.int)->IntsAre v N:=by
 intro N
 induction N with
 |nil=>
  intro v w;rw[map_nil]at w;cases w;exact .nil
 |cons n N i=>
  intro v w;rw[aS]at w;cases w with
  |cons a b=>
   cases a;exact .cons _ _ (i _ b)
def E3 {l:OpenLaw}(u:l.most=some n){P:Params}{A:List WData}{v:bS}
  (H:l.row.toRowW.claim.pre A=true)(f:WellAll P h v A):
  ∃a vs ns,v=[Value.ref a]/\A=[WData.list (ns.map WData.int)]/\h.get? a=some { cls:=.type "list",data:=.seq vs.toArray }/\IntsAre vs ns/\ns.length<=n:=by
 have g:WShape.hasAll [] A [.list .int]=true:=(pre_splitW H).1;have i:l.pre.holds [] { args:=A }=true:=(pre_splitW H).2;obtain⟨d,r,rfl,y,x⟩:=hasAllW_cons g;obtain rfl:=hasAllW_nil x;obtain⟨X,rfl,p⟩:=hasW_list y;obtain⟨ns,rfl⟩:=items_int p;have t:ns.length<=n:=by
  unfold OpenLaw.pre at i;have e:(WTm.not (.lt (.lit (.int (n:Int))) (.len (.arg 0)))).holds [] { args:=[.list (ns.map .int)] }=true:=by have e:=(holds_andW i).1;rw[u]at e;exact e
  have c:=condW_of e (w_not (w_lt w_lit (w_len_list (w_arg rfl))));rw[af]at c;refine Nat.le_of_not_lt λq=>?_;have Q:(n:Int)<((ns.length:Nat):Int):=by lia
  first
   |(rw[ax Q]at c;exact absurd c (by decide))
   |(simp at c;lia)
 cases f with
 |cons j w=>
  cases w;cases j with|list o b=>exact⟨_,_,ns,rfl,rfl,o,IM ns _ b,t⟩
def Dl (l:OpenLaw)(a:List WData):l.row.toRowW.claim.post a (.bool true) a=true:=
 postW_of (r:=l.row.toRowW) (X:=(true==true))
  (show WShape.has [] (.bool true) .bool=true by first|rfl|decide|simp[WShape.has,WShape.arms,WShape.armsAll])
  (show(WTm.eq .res (.lit (.bool true))).value [] { args:=a,res:=some (.bool true),after:=a }=some (.bool (true==true)) from w_eq_bool (w_res rfl) w_lit) rfl
def F8 {l:OpenLaw}{q:Program}{L:bX}{P:World->Heap->Prop}{d:DefRec}
  (T:l.most=some n)(e:d.params.defaults=[])
  (call:∀(w:World)(b S:Shared)(M Q:b0)(fa:Addr)(o:Obj)(K J C:Value)(a:Addr)(E:bS)(N:bR),
   Ground q L [] XP w b M Q S.heap->P w S.heap->
   S.heap.get? fa=some o->o.data=.func (docDef d.name d.params d.body d.scope K J C)->S.heap.CodeRec J d.name->M d.name=some (.ref fa)->
   S.heap.get? a=some { cls:=.type "list",data:=.seq E.toArray }->IntsAre E N->N.length<=n->S.gens=#[]->
   codeAny (model l.prog w) callerA (.call (.ref fa) ⟨[.ref a],[]⟩) (λr s'=>r=.ok (.ret (.bool true))/\OldK S.heap s'.heap/\s'.os=S.os/\AllBare s'.gens) S):
  WalkO q L XP P l.row.toRowW d [] (λf E=>PySem.call f E):=by
 intro w b S M Q G Y fa o K J C A kV t X i D g v args vals as h y j c u;obtain rfl:A=.none:=Dflts.none D e;obtain rfl:kV=.none:=Dflts.noKw D;obtain⟨a,E,N,rfl,rfl,H,B,I⟩:=E3 T h c;refine enter_call (codeAny_mono (call w b S M Q fa o K J C a E N G Y t (fd_plain X) i g H B I v) λr s' p=>?_);obtain⟨rfl,Z,z,x⟩:=p;exact⟨.inl ⟨.bool true,.bool true,[],rfl,λ_=>rfl,.bool true,Dl l _,λ_=>⟨List.Pairwise.nil,λ_ U=>(nomatch U)⟩⟩,Z,z,x⟩
end Att
namespace L2
open PySem PySem.Spec PyProof.Rows
abbrev LO {K:Frag}(_:K.In h):Frag:=K
def Za (s:Stmt):Arguments:=match s with|.FunctionDef _ a _ _ _ _ _ _ _ _=>a|_=>{ posonlyargs:=[],args:=[],vararg:=none,kwonlyargs:=[],kw_defaults:=[],kwarg:=none,defaults:=[] }
def j6 (s:Stmt):cg:=match s with|.FunctionDef _ _ b _ _ _ _ _ _ _=>b|_=>[]
def qj (s:Stmt):Scope:=match s with|.FunctionDef _ _ _ _ _ _ S _ _ _=>S|_=>{ kind:=.function,names:=[],isGenerator:=false,isCoroutine:=false }
abbrev kO:Zw:=λ_ _ _ _ _ _=>False
abbrev E0:XK:=λ_ _ _=>False
def eD:Passes kO X E0:=λ_ _ _ _ _ _ _ h=>h.elim
structure wm (K:Frag)(x qual:Str)(st:Stmt)(f:Addr)(fd:FuncData):Prop where
 ex:∃(oc:Value) (od:cf) (kV doc pm:Value) (an:cf) (cdv ct:Value) (oR:Array (Option Value)),
  fd=fnOf x qual (Za st) (j6 st) (qj st) .none kV doc pm an cdv ct/\K.lookup f=some ⟨oc,od,.func fd,oR⟩/\codeIn K cdv qual=true
 kp:keepIn K (.ref f)=true
section
variable {K:Frag}
def wm.ok {i:Stmt}{fd:FuncData}{ps:bX}{k:Nat}{j:Sp}(F:wm K x qual i f fd)(S:wy N ps (qj i))(len:∀v H Q E,j v H Q E->v.length=ps.length)
  (y:∀(c:Value)(A:Around)(g:b8)(s:Shared)(H:Hp)(v:List V)(Q:VK)(E:XK),jd k (A.deeper (envOfC qual (qj i) s.heap.objs.size f c))->j v H Q E->
   ∃t,yV (kg kO P w K mg base N qual (qj i) f c A g s H E).nox (j6 i) t/\t { nx:=λ_ a=>Q .non a,rt:=Q } (start N v) H):yt P w K mg base kO (k+1) f fd ps j:=by
 obtain⟨e,b,kV,D,n,u,c,ct,o,rfl,l,d⟩:=F.ex;refine T7 l d S len λA g s H v Q E r p=>?_;obtain⟨t,h,q⟩:=y c A g s H v Q E r p;exact⟨t,h.nox,q⟩
def wm.binds {S:Stmt}{fd:FuncData}{ps:bX}(F:wm K x qual S f fd)
  (h:∀(kV D p:Value)(A:cf)(c ct:Value)(u:bS),u.length=ps.length->bindArgs (fnOf x qual (Za S) (j6 S) (qj S) .none kV D p A c ct) ⟨u,[]⟩=pure (ps.zip u)):Binds K fd ps []:=by
 obtain⟨a,d,kV,D,p,A,c,ct,o,rfl,l,H⟩:=F.ex;exact .all (h kV D p A c ct)
def eE {S:Stmt}{a:Value}{o A:cf}{kV d p C ct:Value}(l:K.lookup f=some ⟨a,o,.func (fnOf x qual (Za S) (j6 S) (qj S) .none kV d p A C ct),oR⟩)
  (c:codeIn K C qual=true)(k:keepIn K (.ref f)=true):wm K x qual S f (fnOf x qual (Za S) (j6 S) (qj S) .none kV d p A C ct):=⟨⟨a,o,kV,d,p,A,C,ct,oR,rfl,l,c⟩,k⟩
end
def eF {A:Around}{k:Nat}(h:jd k A):A.units+1<cLine:=Nat.lt_of_le_of_lt (Nat.add_le_add_left (by decide:1<=64) _) h.units
section
variable {κ:Type}[DecidableEq κ]
def wa (a:List (κ×V))(k:κ):Option V:=(a.find? λK=>decide (K.1=k)).map (·.2)
def putK (a:List (κ×V))(k:κ)(v:V):List (κ×V):=
 if (a.any λK=>decide (K.1=k))=true then a.map (λK=>if K.1=k then(K.1,v) else K) else a++[(k,v)]
def GQ {p:κ×V}{r:List (κ×V)}{k:κ}(e:p.1=k):wa (p::r) k=some p.2:=by simp[wa,find?_cons,e]
def GP {p:κ×V}{r:List (κ×V)}{k:κ}(e:¬p.1=k):wa (p::r) k=wa r k:=by simp[wa,find?_cons,e]
theorem Ow (k:κ):∀kvs:List (κ×V),(kvs.any λK=>decide (K.1=k))=(wa kvs k).isSome
 |[]=>rfl|p::r=>by
  rw[any_cons]
  by_cases e:p.1=k
  ·simp only[GQ e,ax e,Bool.true_or,isSome_some]
  ·rw[GP e,aE e,Bool.false_or];exact Ow k r
def FW (K:List (κ×V))(k:κ)(v:V):(putK K k v).length<=K.length+1:=by
 unfold putK
 split
 ·rw[af];lia
 ·rw[au,bc,List.length_nil];lia
def CF {K:List (κ×V)}{k:κ}(v:V)(h:wa K k=none):putK K k v=K++[(k,v)]:=by unfold putK;rw[Ow,h];exact aj (by decide)
def KV.val {K:List (κ×V)}{v:List (κ×Value)}(r:KV K v)(k:κ):QI (wa K k) (valueAt v k):=by
 unfold KV at r
 induction r with
 |nil=>exact True.intro|@cons p q ps Q h t i=>
  obtain⟨H,a⟩:=h
  by_cases e:p.1=k
  ·have E:q.1=k:=H.symm.trans e
   have b:valueAt (q::Q) k=some q.2:=by simp[valueAt,find?_cons,E]
   rw[GQ e,b];exact a
  ·have E:¬q.1=k:=λz=>e (H.trans z)
   have b:valueAt (q::Q) k=valueAt Q k:=by simp[valueAt,find?_cons,E]
   rw[GP e,b];exact i
theorem KV.any {a:List (κ×V)}{v:List (κ×Value)}(r:KV a v)(k:κ):(a.any λK=>decide (K.1=k))=v.any λK=>decide (K.1=k):=by
 unfold KV at r
 induction r with|nil=>rfl|cons h t i=>rw[any_cons,any_cons,i,h.1]
def KV.repl {b:List (κ×V)}{v:List (κ×Value)}(r:KV b v)(k:κ){y:V}(a:RelV y u):
  KV (b.map λK=>if K.1=k then(K.1,y) else K) (v.map λK=>if K.1=k then(K.1,u) else K):=by
 unfold KV at r ⊢
 induction r with
 |nil=>exact .nil|@cons p q ps Q h t i=>
  rw[aS,aS];refine .cons ?_ i;obtain⟨H,c⟩:=h
  by_cases e:p.1=k
  ·rw[ai e,ai (H.symm.trans e)];exact⟨H,a⟩
  ·rw[aj e,aj (λz=>e (H.trans z))];exact⟨H,c⟩
def KV.put {b:List (κ×V)}{v:List (κ×Value)}(r:KV b v)(k:κ){y:V}(a:RelV y u):KV (putK b k y) (stored v k u):=by
 unfold putK stored;rw[r.any k]
 by_cases e:(v.any λK=>decide (K.1=k))=true
 ·rw[ai e,ai e];exact r.repl k a
 ·rw[aj e,aj e];exact Paired.snoc r ⟨rfl,a⟩
theorem KV.length {K:List (κ×V)}{v:List (κ×Value)}(r:KV K v):K.length=v.length:=Paired.length r
end
def T6 {k:Key}(r:RelV (kV k) u):(kQ P w).is k u=true:=by
 cases k with|inl i=>obtain⟨t,e⟩:=(show ∃t,u=Value.int i t from r);subst e;exact F5 P w i t|inr x=>obtain⟨t,e⟩:=(show ∃t,u=Value.str x t from r);subst e;exact FX P w x t
theorem PZ:∀{K:List Key}{u:bS},Vals (K.map kV) u->ItemsAre (kQ P w) K u
 |[],_,r=>by rw[map_nil]at r;cases r;exact .nil|k::K,_,r=>by
  rw[aS]at r;cases r with|cons h t=>exact .cons (T6 h) (PZ t)
abbrev KT (H:Hp):List (List Key×V)->List (List Key×Addr×Value)->Prop:=Paired λp q=>p.1=q.1/\H q.2.1=some (.tup (p.1.map kV))/\RelV p.2 q.2.2
def KT.val {K:List (List Key×V)}{x:List (List Key×Addr×Value)}(r:KT H K x)(k:List Key):QI (wa K k) ((atKey x k).map (·.2)):=by
 induction r with
 |nil=>exact True.intro|@cons p q ps Q h t i=>
  obtain⟨a,_,c⟩:=h
  by_cases e:p.1=k
  ·have E:q.1=k:=a.symm.trans e
   have b:atKey (q::Q) k=some q.2:=by simp[atKey,find?_cons,E]
   rw[GQ e,b];exact c
  ·have E:¬q.1=k:=λz=>e (a.trans z)
   have b:atKey (q::Q) k=atKey Q k:=by simp[atKey,find?_cons,E]
   rw[GP e,b];exact i
section
def MH {u:HO}(ok:jj P w H h)(e:Rd H a u):qZ P w H h a u:=e.ok ok
def Sj (ok:jj P w H h)(e:Rd H a (.dK kvs)):kvs.length<=sizeLine/\(a==sysModules)=false/\∃vs,KV kvs vs/\h.DictOf (kQ P w) a vs:=
 show qZ P w H h a (.dK kvs) from MH ok e
def MD (ok:jj P w H h)(e:H a=some (.dK kvs)):kvs.length<=sizeLine/\(a==sysModules)=false/\∃vs,KV kvs vs/\h.DictOf (kQ P w) a vs:=Sj ok (.inl e)
def Mh {K:List Key}(ok:jj P w H h)(e:H a=some (.tup (K.map kV))):(tupleKind (kQ P w)).is h K a:=by
 obtain⟨_,i,r,o,d,c,n,b⟩:=(show qZ P w H h a (.tup (K.map kV)) from ok a _ e)
 exact⟨o,i.toArray,n,d,c.1,b,by simpa using PZ r⟩
def MU {K:List (List Key×V)}(ok:jj P w H h)(e:Rd H a (.dT K)):K.length<=sizeLine/\(a==sysModules)=false/\
  ∃X,KT H K X/\h.DictOfH (tupleKind (kQ P w)) a X:=by
 obtain⟨z,y,X,r,o,E,j,u,n,g,f,d⟩:=(show qZ P w H h a (.dT K) from MH ok e)
 refine⟨z,y,X,r,o,E,j,u,n,g,f,λx b=>?_,d⟩;have all:∀{l:List (List Key×V)}{m:List (List Key×Addr×Value)},KT H l m->∀x∈m,(tupleKind (kQ P w)).is h x.1 x.2.1:=by
  intro l m q
  induction q with
  |nil=>intro x b;exact nomatch b
  |@cons p q ps Q c t i=>
   intro x b;rcases cw.mp b with e|b
   ·subst e
    exact Mh ok (by rw[<- c.1];exact c.2.1)
   ·exact i x b
 exact all r x b
end
def Ke (H:Hp)(a:Addr)(y:V)(r:Option V):Prop:=
 (∃K k,Rd H a (.dK K)/\y=kV k/\r=wa K k)∨∃K k b,Rd H a (.dT K)/\y=.ref b/\H b=some (.tup (k.map kV))/\r=wa K k
theorem Ke.k {k:Key}(e:H a=some (.dK kvs)):Ke H a (kV k) (wa kvs k):=.inl ⟨kvs,k,.inl e,rfl,rfl⟩
section
variable {s:Shared}{y:V}{o:Option V}{A:Around}
def Inv.big (I:Inv X o6 σ H s):sysModules<s.heap.objs.size:=by have h:mainGlobals<s.heap.objs.size:=(I.mod.glob.keeps I.bk).lt;exact lt_trans (by decide) h
def DM (j:A.units+1<cLine)(I:Inv X o6 σ H s)(g:Ke H a y (some v))(i:RelV y u)(h:∀c s',Inv X o6 σ H s'->RelV v c->Q c s'):
  wpAny (model X.prog X.w) A (getItem (.ref a) u) Q E s:=by
 rcases g with ⟨K,k,e,f,l⟩|⟨K,k,b,e,f,q,l⟩
 ·subst f
  obtain⟨z,J,C,t,D⟩:=Sj I.hok e;obtain⟨c,x,r⟩:=QI.some_of (v:=v) (o:=valueAt C k) (by rw[l];exact t.val k)
  exact wpAny_getItem_of (T6 i) D.mapOf x (h c _ (I.tok _) r)
 ·subst f
  cases (show u=Value.ref b from i)
  obtain⟨z,J,B,t,D⟩:=MU I.hok e;obtain⟨c,x,r⟩:=QI.some_of (v:=v) (o:=(atKey B k).map (·.2)) (by rw[l];exact t.val k)
  obtain⟨p,n,d⟩:=Option.map_eq_some_iff.mp x;refine wpAny_getItem_heap (tupleKind_room_in1 j) (Mh I.hok q) D n ?_;rw[d];exact h c _ (I.tok _) r
def AG {ob:HO}(I:Inv X o6 σ H s)(M:WQ (H a))(h:Heap.SameBut a s.heap h')(d:∃q,h'.get? a=some q)(new:qZ X.prog X.w (upd H a ob) h' a ob):
  Inv X o6 σ (upd H a ob) { s with heap:=h',toks:=t' }:=
 I.write (x:=a) (e:=a) M (.inl rfl) (λb q c z=>(h.2 b c).trans z) d new
def eG {H:Hp}{v:List (Key×Value)}(z:kvs.length<=sizeLine)(h:(a==sysModules)=false)(r:KV kvs v)(d:h'.DictOf (kQ P w) a v):
  qZ P w H h' a (.dK kvs):=⟨z,h,v,r,d⟩
end
def SX (i:Expr):Prop:=∀o I,subscripted i false o I=operate [o,I] (getItem o I)
def BN {p:Program}{A:Around}{s:Shared}{v f:Expr}{T id:String}
  (l:typeLookup (.type T) "__getitem__"=pure (some (.builtin id)))(e:SX f)
  (h:wpAny (model p w) A (eval v env) (λo b=>wpAny (model p w) A (eval f env) (λi S=>S.TypeIs o T/\wpAny (model p w) A (getItem o i) Q E S) E b) E s):
  wpAny (model p w) A (eval (.Subscript v f o7) env) Q E s:=by
 refine Subscript_ (wpAny_mono h (λo b d=>wpAny_mono d (λi S H=>?_) λ_ _ x=>x) λ_ _ x=>x);obtain⟨hT,H⟩:=H;unfold subscriptTail;refine cj ?_;rw[getitemInPython_of_ne hT.not_modules];refine cj (wpAny_specialOf hT l ?_);have n:wpAny (model p w) A (subscripted f false o i) (λr a=>wpAny (model p w) A (letTemporaryGo v o r >>= λ_=>pure r) Q E a) E S:=by rw[e o i];exact wpAny_operating (wpAny_mono H (λr a c=>cj (wpAny_letTemporaryGo (cn c))) λ_ _ x=>x)
 first
  |exact cn (cj n)
  |exact cj (cn (cj n))
  |exact cj n
def FV {s:Shared}{y:V}{o:Option V}(I:Inv X o6 σ H s)(g:Ke H a y o):s.TypeIs (.ref a) "dict":=by
 rcases g with ⟨K,k,e,_,_⟩|⟨K,k,b,e,_,_,_⟩
 ·obtain⟨_,_,v,_,d⟩:=Sj I.hok e
  exact d.typeIs
 ·obtain⟨_,_,x,_,d⟩:=MU I.hok e
  exact d.typeIs
def eH (td ty:TE):TE:=λb H Q=>td b H λx c=>ty b c λy h=>∃a v,x=.ref a/\Ke h a y (some v)/\Q v h
section
variable {o i:Expr}{td ty:TE}
def BP (f:X.A.units+1<cLine)(l:PE X o td)(n:PE X i ty)(j:SX i):PE X (.Subscript o i o7) (eH td ty):=by intro P s C H Q I h;refine BN PySem.F.slot_dict_getitem.lookup j (zU (l P s C H _ I h) λu S ⟨x,D,t,d,e⟩=>zU (n P S C D _ t e) λB K ⟨y,w,b,c,a,v,E,g,q⟩=>?_);subst E;obtain rfl:u=Value.ref a:=d;exact⟨FV b g,DM f b g c λz J p r=>⟨v,w,p,r,q⟩⟩
end
def Cz (h:Heap)(b:sysModules<h.objs.size):qZ P w H (h.push { cls:=.type "dict",data:=.dict #[] }) h.objs.size (.dK []):=
 ⟨zero_le _,beq_eq_false_iff_ne.mpr (Ne.symm (aO b)),[],.nil,Heap.DictOf.new h⟩
def eI:TE:=λ_ H Q=>∀p,H p=none->Q (.ref p) (upd H p (.dK []))
section
def C8:PE X (.Dict [] [] o7) eI:=λp s b H Q I h=>
 wpAny_Dict_empty ⟨.ref s.heap.objs.size,_,I.laid (a:=s.heap.objs.size) (o:=.dK []) (t':=s.toks) (λ_ _ q=>ag _ q) (ao _) (Cz s.heap I.big),rfl,h _ (I.hok.fresh (ao _))⟩
end
noncomputable def kX (e:Env):List (Str×NameKind)->List (Str×Addr)->List (Str×Addr)
 |[],acc=>acc|(n,k)::r,acc=>kX e r (if k==.free then(n,(e.cells.lookup n).getD 0)::acc else acc)
def CH (f:Str×NameKind->List (Str×Addr)->Sem (ForInStep (b9)))
  (l:∀n k r,f (n,k) r=if (k==NameKind.free)=true then(do let c <- cellOf env n;pure (ForInStep.yield ((n,c)::r))) else pure (ForInStep.yield r)):
  ∀(N:List (Str×NameKind))(A:b9),(∀y∈N,y.2=.free->∃c,env.cells.lookup y.1=some c)->(forIn N A f:Sem (b9))=pure (kX env N A):=by
 intro N
 induction N with
 |nil=>intro A _;rfl|cons y r i=>
  intro A b;obtain⟨n,k⟩:=y;rw[forIn_cons,l];unfold kX;have h:=i (if k==.free then(n,(env.cells.lookup n).getD 0)::A else A) (λy g=>b y (aA _ g))
  by_cases a:k=.free
  ·subst a
   obtain⟨c,d⟩:=b (n,.free) aG rfl;have e:cellOf env n=pure c:=by unfold cellOf;rw[d]
   have H:List.lookup n env.cells=some c:=d;simp only[e,H,Option.getD_some,bB,if_true]at h ⊢;exact h
  ·have j:(k==NameKind.free)=false:=by simpa using a
   simp only[j,false_eq_true,if_false]at h ⊢;exact h
def Pp (h:∀y∈scope.names,y.2=.free->∃c,env.cells.lookup y.1=some c):closureFor scope env=pure (kX env scope.names []):=by
 unfold closureFor;dsimp only;rw[CH _ (λn k r=>rfl) scope.names [] h]
 rfl
theorem Ju {n:Str}{c:Addr}:∀(N:List (Str×NameKind))(a:b9),(n,c)∈kX env N a->(n,c)∈a∨((n,NameKind.free)∈N/\c=(env.cells.lookup n).getD 0)
 |[],a,h=>.inl h|(x,k)::r,a,h=>by
  unfold kX at h;rcases Ju r _ h with h|⟨h1,h2⟩
  ·by_cases H:k=.free
   ·subst H
    simp only[bB,if_true]at h;rcases cw.mp h with e|h
    ·cases e;exact .inr ⟨aG,rfl⟩
    ·exact .inl h
   ·have b:(k==NameKind.free)=false:=by simpa using H
    simp only[b,false_eq_true,if_false]at h;exact .inl h
  ·exact .inr ⟨aA _ h1,h2⟩
theorem Gs {n:Str}:∀(N:List (Str×NameKind))(A:b9),((n,NameKind.free)∈N∨(A.lookup n).isSome=true)->((kX env N A).lookup n).isSome=true
 |[],A,h=>by
  rcases h with h|h
  ·cases h
  ·exact h
 |(x,k)::r,A,h=>by
  unfold kX;refine Gs r _ ?_;rcases h with h|h
  ·rcases cw.mp h with e|h
   ·cases e
    right
    simp
   ·exact .inl h
  ·right
   by_cases H:(k==NameKind.free)=true
   ·rw[ai H,bH]
    cases a:n==x
    ·exact h
    ·rfl
   ·rw[aj H];exact h
theorem VV {n:Str}{c:Addr}:∀(N:List (Str×NameKind))(k:Nat)(A:b9),(n,c)∈cellsFrom k N A->(n,c)∈A∨(k<=c/\(n,NameKind.cell)∈N)
 |[],_,_,h=>.inl h|(x,q)::r,k,A,h=>by
  unfold cellsFrom at h
  by_cases a:(q==NameKind.cell)=true
  ·rw[ai a]at h
   have H:q=.cell:=by simpa using a
   rcases VV r _ _ h with h|⟨h1,h2⟩
   ·rcases cw.mp h with e|h
    ·cases e;subst H;exact .inr ⟨ao _,aG⟩
    ·exact .inl h
   ·exact .inr ⟨by lia,aA _ h2⟩
  ·rw[aj a]at h
   rcases VV r _ _ h with h|⟨h1,h2⟩
   ·exact .inl h
   ·exact .inr ⟨h1,aA _ h2⟩
theorem V0:∀(b:List (Str×NameKind))(k:Nat)(A:b9),(∀n c,(n,c)∈A->c<k)->(∀n N c,(n,c)∈A->(N,c)∈A->n=N)->∀n N c,(n,c)∈cellsFrom k b A->(N,c)∈cellsFrom k b A->n=N
 |[],_,_,_,hi,n,N,c,h,h'=>hi n N c h h'|(x,q)::r,k,A,l,hi,n,N,c,h,h'=>by
  unfold cellsFrom at h h'
  by_cases a:(q==NameKind.cell)=true
  ·rw[ai a]at h h'
   refine V0 r (k+1) ((x,k)::A) (λm d f=>?_) (λm M d f H=>?_) n N c h h'
   ·rcases cw.mp f with e|f
    ·cases e;exact bA _
    ·exact bj (l m d f)
   ·rcases cw.mp f with e|f
    ·rcases cw.mp H with E|H
     ·cases e;cases E;rfl
     ·cases e;exact absurd (l M _ H) (aT _)
    ·rcases cw.mp H with E|H
     ·cases E;exact absurd (l m _ f) (aT _)
     ·exact hi m M d f H
  ·rw[aj a]at h h'
   exact V0 r k A l hi n N c h h'
theorem VM {n:Str}{c:Addr}:∀(N:List (Str×NameKind))(h:Heap)(a:b9),(n,c)∈cellsFrom h.objs.size N a->(n,c)∈a∨(pushCells h N).IsCell c none
 |[],_,_,q=>.inl q|(x,k)::r,h,a,q=>by
  unfold cellsFrom at q;unfold pushCells
  by_cases H:(k==NameKind.cell)=true
  ·rw[ai H]at q ⊢
   have:=VM r (h.push { cls:=.type "cell",data:=.cell none }) ((x,h.objs.size)::a) (by rw[bp];exact q)
   rcases this with z|z
   ·rcases cw.mp z with e|z
    ·cases e
     exact .inr ⟨_,pushCells_keeps r _ _ _ (aD _ rfl),rfl⟩
    ·exact .inl z
   ·exact .inr z
  ·rw[aj H]at q ⊢
   exact VM r h a q
def Ir {A:Around}{s:Shared}{globals:Addr}{cl:b9}{Q:Env->Shared->Prop}
  (h:Q { scope,locals:=s.heap.objs.size,globals,cells:=cellsFrom (s.heap.objs.size+1) scope.names cl,qual,func:=none,code:=env.code,frame:=env.frame,builtins:=env.builtins }
   { s with heap:=pushCells (s.heap.push { cls:=.type "dict",data:=.dict #[] }) scope.names }):
  wpAny M A (newFunctionEnv scope globals cl [] qual none .none (some env)) Q E s:=by
 simp only[newFunctionEnv,isSome_some,if_true];refine cj (wpAny_alloc ?_);refine cj (wpAny_layCells _ (λn K c=>by cases H:K==NameKind.cell<;>simp[H]) _ _ _ _ ?_)
 rw[show({ s with heap:=s.heap.push { cls:=.type "dict",data:=.dict #[] } }:Shared).heap.objs.size=s.heap.objs.size+1 from bp ..]
 rw[forIn_nil];exact cj (cn (cn h))
def jI (X:Cx)(N:bX)(scope:Scope)(s:Shared)(H:Hp)(f:bU)(e:bY):Cx where
 prog:=X.prog
 w:=X.w
 K:=X.K
 mg:=X.mg
 base:=X.base
 A:=X.A
 N:=N
 s0:=s
 H0:=H
 env:={ scope:=relabel scope X.env,locals:=s.heap.objs.size,globals:=X.env.globals,cells:=cellsFrom (s.heap.objs.size+1) scope.names (kX X.env scope.names []),qual:=X.env.qual,func:=none,code:=X.env.code,frame:=X.env.frame,builtins:=X.env.builtins }
 outer:=X.stack
 stack:=X.stack
 ex:=f
 fn:=λx=>scope.names.lookup x==some .local || scope.names.lookup x==some .cell
 calm:=X.calm
 pn:=[]
 xe:=e
structure gH (X:Cx)(scope:Scope):Prop where
 kind:scope.kind=.function
 nd:(scope.names.map (·.1)).Nodup
 free:∀y∈scope.names,y.2=.free->X.env.kindOf y.1=some .cell∨X.env.kindOf y.1=some .free
theorem Yk {k:α}:∀{l:List (Str×α)},(l.map (·.1)).Nodup->(x,k)∈l->l.lookup x=some k
 |(y,q)::r,nd,h=>by
  rw[aS,List.nodup_cons]at nd;rw[bH];rcases cw.mp h with e|h
  ·cases e;simp
  ·have n:(x==y)=false:=by
    rw[beq_eq_false_iff_ne];intro e
    apply nd.1
    rw[<- e];exact List.mem_map_of_mem (f:=(·.1)) h
   rw[n];exact Yk nd.2 h
def VN {k:NameKind}(h:(relabel scope env).names.lookup x=some k):scope.names.lookup x=some k∨(k=.cell/\scope.names.lookup x=some .free/\env.kindOf x=some .cell):=by
 unfold relabel at h;dsimp only at h;generalize scope.names=names at h ⊢
 induction names with
 |nil=>cases h|cons y r i=>
  obtain⟨n,q⟩:=y;rw[aS]at h;have split:(if (q==NameKind.free&&env.scope.kind==.function&&env.kindOf n==some .cell)=true then(n,NameKind.cell) else(n,q)).1=n:=by split<;>rfl
  rw[bH]at h ⊢;dsimp only at h;rw[split]at h;cases a:x==n with
  |false=>rw[a]at h;exact i h|true=>
   rw[a]at h;have e:x=n:=aL.mp a;subst e
   by_cases H:(q==NameKind.free&&env.scope.kind==.function&&env.kindOf x==some .cell)=true
   ·rw[ai H]at h
    simp only[ak,aL]at H;cases h
    right
    exact⟨rfl,by rw[H.1.1],H.2⟩
   ·rw[aj H]at h
    left
    exact h
section
variable {s:Shared}
def Inv.capt (I:Inv X o6 σ H s)(S:gH X scope)(h:(x,NameKind.free)∈scope.names):∃c,X.env.cells.lookup x=some c:=I.ok.has x (S.free _ h rfl)
def YA (I:Inv X o6 σ H s)(S:gH X scope){c:Addr}(h:(x,c)∈cellsFrom (s.heap.objs.size+1) scope.names (kX X.env scope.names [])):
  ((x,NameKind.free)∈scope.names/\X.env.cells.lookup x=some c/\c<s.heap.objs.size)∨((x,NameKind.cell)∈scope.names/\s.heap.objs.size<c/\∀f:Heap,f.objs.size=s.heap.objs.size+1->(pushCells f scope.names).IsCell c none):=by
 rcases VV _ _ _ h with d|⟨d,h2⟩
 ·left
  rcases Ju _ _ d with z|⟨z,e⟩
  ·cases z
  ·obtain⟨C,a⟩:=I.capt S z
   rw[a]at e;have E:c=C:=e;subst E;obtain⟨v,q⟩:=I.cell x c a;exact⟨z,a,q.lt⟩
 ·right
  refine⟨h2,d,λf b=>?_⟩;have g:=h;rw[<- b]at g;rcases VM _ f _ g with z|z
  ·exfalso
   rcases Ju _ _ z with z|⟨z,e⟩
   ·cases z
   ·obtain⟨C,a⟩:=I.capt S z
    rw[a]at e;have E:c=C:=e;subst E;obtain⟨v,q⟩:=I.cell x c a;exact aT _ (aJ (bj q.lt) d)
  ·exact z
def Bs {xe:bY}{f:St}(I:Inv X o6 σ H s)(S:gH X scope)(hf:∀b∈fp,w6 X o6 H b)(A:∀b∈fp,b<s.heap.objs.size)(hl:f.length=N.length)
  (hs:∀(j:Nat)(x:Str)(v:V),N[j]? =some x->f[j]? =some (some v)->(x,NameKind.free)∈scope.names/\∃i:Nat,X.N[i]? =some x/\σ[i]? =some (some v)):
  Inv (jI X N scope s H fp xe) [] f H { s with heap:=pushCells (s.heap.push { cls:=.type "dict",data:=.dict #[] }) scope.names }:=by
 have K:∀b o,s.heap.get? b=some o->(pushCells (s.heap.push { cls:=.type "dict",data:=.dict #[] }) scope.names).get? b=some o:=λb o e=>pushCells_keeps _ _ _ _ (ag _ e);have Q:(s.heap.push { cls:=.type "dict",data:=.dict #[] }).objs.size=s.heap.objs.size+1:=bp ..;have l:∀{x:Str}{c:Addr},(jI X N scope s H fp xe).env.cells.lookup x=some c->(x,c)∈cellsFrom (s.heap.objs.size+1) scope.names (kX X.env scope.names []):=λh=>PySem.mem_of_lookup h;have L:∀{x:Str},((jI X N scope s H fp xe).env.kindOf x=some .cell∨(jI X N scope s H fp xe).env.kindOf x=some .free)->∃c,(jI X N scope s H fp xe).env.cells.lookup x=some c:=λ {x} h=>by
  refine Option.isSome_iff_exists.mp (cellsFrom_some _ _ _ ?_);have two:scope.names.lookup x=some .cell∨scope.names.lookup x=some .free:=by
   rcases h with h|h
   ·rcases VN h with z|⟨_,z,_⟩
    ·exact .inl z
    ·exact .inr z
   ·rcases VN h with z|⟨z,_⟩
    ·exact .inr z
    ·cases z
  rcases two with z|z
  ·exact .inl z
  ·exact .inr (Gs _ _ (.inl (PySem.mem_of_lookup z)))
 have exP:∀b∈fp,∀x c,(jI X N scope s H fp xe).env.cells.lookup x=some c->c≠b:=λb a x c e=>by
  rcases YA I S (l e) with ⟨_,q,_⟩|⟨_,q,_⟩
  ·exact(hf b a).2.2.2.2.1 x c q
  ·intro z;subst z;exact aT _ (lt_trans q (A _ a))
 refine⟨⟨I.ok.mod,S.kind,I.ok.glob,I.ok.blt,ao _,λx y c h1 h2=>?_,λx h=>L h,λx c g h=>?_,I.ok.hd,I.ok.frames,.inl rfl,λb a=>⟨?_,exP b a⟩,I.bs,a4 I.ok.bsz I.sz,λb o e a=>?_,λb a z=>?_,I.stack,I.stkFree⟩,
  rfl,I.bare,Un.kept K,⟨λ_=>none,?_,λj x v h1 h2 Y=>?_⟩,λx c e=>?_,I.fresh,λx c e=>?_,λp hp=>?_,I.hok.kept K,hl⟩
 ·refine V0 _ _ _ (λn c h=>?_) (λn n' c h h'=>?_) x y c (l h1) (l h2)
  ·rcases Ju _ _ h with z|⟨z,e⟩
   ·cases z
   ·obtain⟨c',D⟩:=I.capt S z
    rw[D]at e;have M:c=c':=e;subst M;obtain⟨v,q⟩:=I.cell n c D;exact bj q.lt
  ·rcases Ju _ _ h with z|⟨z,e⟩
   ·cases z
   ·rcases Ju _ _ h' with Z|⟨Z,M⟩
    ·cases Z
    ·obtain⟨d,hd⟩:=I.capt S z
     obtain⟨d',B⟩:=I.capt S Z;rw[hd]at e;rw[B]at M;have J:c=d:=e;have e2:c=d':=M;subst J;subst e2;exact I.ok.inj _ _ _ hd B
 ·rcases YA I S (l h) with ⟨z,_,_⟩|⟨_,z,_⟩
  ·exfalso
   have J:=Yk S.nd z;have t:(scope.names.lookup x==some .local || scope.names.lookup x==some .cell)=true:=g;rw[J]at t;cases t
  ·exact bL z
 ·exact aO (A b a)
 ·obtain⟨_,_,_,E,_⟩:=hf b a
  rcases E with E|E
  ·exact I.ok.noex b o e E
  ·exact absurd (aJ (aM e) (a4 I.ok.bsz E)) (aT _)
 ·obtain⟨_,h2,Y,_⟩:=hf b a
  rcases cw.mp (I.stkSub b z) with e|e
  ·exact h2 e
  ·exact Y e
 ·exact(Heap.Ns.new s.heap (.type "dict")).keeps (pushCells_keeps _ _)
 ·obtain⟨g,i,J,e2⟩:=hs j x v h1 h2
  obtain⟨m,hn,U⟩:=I.loc;have P:WO X.env.scope x:=.inr (S.free _ g rfl);obtain⟨u,r,lk⟩:=U i x v J e2 P;refine⟨u,r,.inr ?_⟩;have w:(jI X N scope s H fp xe).env.kindOf x=some .cell∨(jI X N scope s H fp xe).env.kindOf x=some .free:=by
   rcases Y with z|z|z
   ·exfalso
    rcases VN z with Z|⟨Z,_⟩
    ·rw[Yk S.nd g]at Z;cases Z
    ·cases Z
   ·exact .inl z
   ·exact .inr z
  refine⟨w,?_⟩;obtain⟨c,D⟩:=L w;refine⟨c,D,?_⟩;rcases YA I S (l D) with ⟨_,q,_⟩|⟨q,_,_⟩
  ·rcases lk with ⟨z,_⟩|⟨_,c',C,cell⟩
   ·exfalso
    rcases S.free _ g rfl with k|k<;>(rw[k]at z;cases z)
   ·rw[q]at C;cases C
    exact cell.keeps K
  ·exfalso
   have a1:=Yk S.nd g;have a2:=Yk S.nd q;rw[a1]at a2;cases a2
 ·rcases YA I S (l e) with ⟨_,q,_⟩|⟨_,_,q⟩
  ·obtain⟨v,z⟩:=I.cell x c q
   exact⟨v,z.keeps K⟩
  ·exact⟨_,q _ Q⟩
 ·rcases YA I S (l e) with ⟨_,q,_⟩|⟨_,q,_⟩
  ·exact I.freeC x c q
  ·exact I.hok.fresh (bL q)
 ·have T:p∈([]:bV):=hp
  cases T
end
abbrev gZ:=Addr->St->Hp->(St->Hp->Prop)->Prop
def WG (E:Expr)(g:List Comprehension)(S:Scope)(p:Pos)(d:Nat)(a:Value)(e:Env)(k:Sem Fin):Sem Fin:=
 match g[d+1]? with
 |some b=>do
  let x <- eval b.iter e
  standAt b.iter.pos
  let x <- foldedSetIterable b.iter e x
  let _ <- runOwn (.compStart (.ListComp E g S p) (d+1) (<- holding [x] (pyIter x)) a e) e
  k
 |none=>do
  (do let _ <- call (.builtin "list.append") [a,<- eval E e])
  k
theorem eJ {d:Nat}{I A:Value}(h:gens[d]? =some ⟨tg,o8,ifs,0⟩)(H:∀g',gens[d+1]? =some g'->g'.is_async=0):
  compTurn (.ListComp oI gens sc o7) d I A env=(do
   standAt o8.pos
   match <- pyNext I with
   |none=>pure (.done .next)|some v=>
    letOwnedTupleGo tg I v
    assign tg env v
    let mut ok:=true
    for c in ifs do
     if ok then ok <- isTrue c env (eval c env)
    if ok then WG oI gens sc o7 d A env (again (.compLoop (.ListComp oI gens sc o7) d I A env))
    else again (.compLoop (.ListComp oI gens sc o7) d I A env)):=by
 unfold compTurn WG;dsimp only;rw[h];cases hn:gens[d+1]? with
 |none=>rfl|some g'=>
  obtain⟨t,i,f,a⟩:=g';have e:a=0:=H _ hn;subst e
  rfl
def QJ (X:Cx)(i:bZ)(t:TT):Prop:=
 ∀(o6:bV)(s:Shared)(σ:St)(H:Hp)(Q:Bool->Hp->Prop),Inv X o6 σ H s->t σ H Q->
  wpAny (model X.prog X.w) X.A (forIn i true λc r=>if r=true then do let ok <- isTrue c X.env (eval c X.env);pure (ForInStep.yield ok) else pure (ForInStep.yield r)) (TP X o6 σ Q) X.xe s
def eK:TT:=λ_ H Q=>Q true H
def C5:QJ X [] eK:=λp s a H Q I h=>wpAny_tests_nil ⟨H,I,h⟩
def CG {c:Expr}{t:TT}(h:PT X c t):QJ X [c] t:=λp s a H Q I w=>wpAny_tests_one (h p s a H Q I w)
def gB (X:Cx)(e:Expr)(g:List Comprehension)(c:Scope)(p:Pos)(d:Nat)(t:gZ):Prop:=
 ∀(o6:bV)(s:Shared)(σ:St)(H:Hp)(D:Addr)(Q:St->Hp->Prop)(k:Sem Fin)(Q':Fin->Shared->Prop)(E:bY),Inv X o6 σ H s->t D σ H Q->
  (∀S a h,Inv X o6 a h S->Q a h->wpAny (model X.prog X.w) X.A k Q' E S)->wpAny (model X.prog X.w) X.A (WG e g c p d (.ref D) X.env k) Q' E s
def eM (t:TE):gZ:=λD a H Q=>t a H λy h=>∃Y,h D=some (.lst Y)/\Y.length<sizeLine/\Q a (upd h D (.lst (Y++[y])))
def Ws (J:It)(g:TG)(T:TT)(t:gZ):gZ:=λD e H Q=>∃W:Nat->Nat->St->Hp->Prop,(∃m,W 0 m e H)/\∀i m e H,W i m e H->
 (J.stop i H/\Q e H)∨(J.go i H/\∃N:St->Hp->Prop,(∀c h,N c h->∃M,M<m/\W (i+1) M c h)/\∀x h,J.yld i H x h->g x e h λa f=>T a f λb d=>if b=true then t D a d N else N a d)
def eN (w:TI)(g:TG)(T:TT)(t:gZ):gZ:=λD a H Q=>w a H λJ h=>Ws J g T t D a h Q
section
variable {d:Nat}
def YU (h:∀e s,X.xe e s->False){t:Sem α}{Q:α->Shared->Prop}(H:wpAny (model X.prog X.w) X.A t Q X.xe s'):wpAny (model X.prog X.w) X.A t Q E s':=
 wpAny_mono H (λ_ _ z=>z) λe s' z=>(h e s' z).elim
def Bp {t:TE}(x:∀e s,X.xe e s->False)(v:PE X oI t)(g:gens[d+1]? =none):gB X oI gens sc o7 d (eM t):=by intro p s n H D Q k A E I h b;unfold WG;rw[g];refine cj (cj (YU x (zU (v p s n H _ I h) λu o ⟨y,w,f,r,Y,c,z,a⟩=>?_)));refine cj (YU x (zU (P8 p o n w (.ref D) [y] (.ref D) [u] (λ_ l=>Q n l) f rfl (.cons r .nil) ⟨D,Y,y,rfl,rfl,c,z,a⟩) λ_ S ⟨_,j,i,_,q⟩=>?_));exact cn (b S n j i q)
def BQ {g:TG}{ti:TT}{tm:gZ}(Y:∀e s,X.xe e s->False)(Z:X.calm=true)(hg:gens[d]? =some ⟨tg,o8,ifs,0⟩)(ha:∀g',gens[d+1]? =some g'->g'.is_async=0)(M:PG X tg g)(hi:QJ X ifs ti)(hm:gB X oI gens sc o7 d tm)
  {s:Shared}{Q:St->Hp->Prop}{J:It}{it:Addr}{B:Nat->Heap->Prop}(T:Turn X.prog X.w X.K tg J fp it B)(I:Inv X o6 σ H s)(st:B 0 s.heap)(hf:∀b∈fp,w6 X o6 H b)
  (h:Ws J g ti tm D σ H Q){R:Result->Shared->Prop}(hR:∀s' a c,Inv X o6 a c s'->Q a c->R (.ok .next) s'):
  codeAny (model X.prog X.w) X.A (.compLoop (.ListComp oI gens sc o7) d (.ref it) (.ref D) X.env) R s:=by
 obtain⟨W,⟨m0,w0⟩,turn⟩:=h;have S:∀{c:Hp},(∀b∈fp,c b=none)->∀b∈fp,w6 X o6 c b:=λhn b l=>⟨hn b l,(hf b l).2⟩;refine codeAny_loop rfl (λn s'=>∃i a c,Inv X o6 a c s'/\B i s'.heap/\(∀b∈fp,c b=none)/\W i n a c) (λn s3 hI=>?_) m0 ⟨0,σ,H,I,st,λb l=>(hf b l).1,w0⟩;show wpAny _ X.A ((compTurn (.ListComp oI gens sc o7) d (.ref it) (.ref D) X.env).onRaise (λx=>do noteFrame x X.env;theTreesLotGoes x)) _ _ s3
 refine wpAny_noted ?_;rw[eJ hg ha];refine cj (wpAny_standAt ?_);obtain⟨i,j,C,I3,ZN,z,w3⟩:=hI;rcases turn i n j C w3 with ⟨stop,qn⟩|⟨go,N,hN,step⟩
 ·refine cj (zU (T.done X rfl rfl rfl Z i o6 s3 j C _ I3 (S z) ZN stop) λr s4 ⟨L,I4⟩=>?_)
  subst L;exact cn (hR s4 j C I4 qn)
 ·refine cj (zU (T.item X rfl rfl rfl Z i o6 s3 j C _ I3 (S z) ZN go) λr s4 ⟨u,L,h4⟩=>?_)
  subst L;refine cj (zU h4 λ_ s5 ⟨x,H5,I5,r5,y5,p,P⟩=>?_);have U:=I5.pinned (S P) (T.obj _ _ p);have back:∀{f:St}{q:Hp}{t:Shared},Inv X (o6++K8 fp s5.heap) f q t->N f q->∃m,m<n/\∃i a c,Inv X o6 a c t/\B i t.heap/\(∀b∈fp,c b=none)/\W i m a c:=λ {f q t} v n7=>by obtain⟨m',hm,w7⟩:=hN f q n7;refine⟨m',hm,i+1,f,q,v.unpinned,T.keep _ _ _ p λb l o e=>(v.pin (b,o) (aR _ (aR _ (Gr l e)))).1,λb l=>?_,w7⟩;obtain⟨o,e,d⟩:=T.obj _ _ p b l;exact(v.pin (b,o) (aR _ (aR _ (Gr l e)))).2.1
  refine cj (YU Y (zU (M _ s5 j H5 x u _ U r5 (step x H5 y5)) λ_ s6 ⟨y,H6,I6,q6⟩=>?_));refine cj (YU Y (zU (hi _ s6 y H6 _ I6 q6) λok t ⟨q,v,E⟩=>?_));cases ok with
  |false=>exact cn ⟨rfl,back v E⟩|true=>
   rw[ai rfl]at E;exact hm _ t y q D _ _ _ _ v E λs8 σ8 H8 I8 q8=>cn ⟨rfl,back I8 q8⟩
def Ms {g:TG}{v:TT}{u:gZ}(i:∀e s,X.xe e s->False)(o:X.calm=true)(c:gens[d]? =some ⟨tg,o8,ifs,0⟩)(p:∀g',gens[d+1]? =some g'->g'.is_async=0)(t:PG X tg g)(j:QJ X ifs v)(y:gB X oI gens sc o7 d u)
  {s:Shared}{Q:St->Hp->Prop}{J:It}{r:Addr}{n:Nat->Heap->Prop}(T:Turn X.prog X.w X.K tg J fp r n)(I:Inv X o6 σ H s)(S:n 0 s.heap)(z:∀b∈fp,w6 X o6 H b)
  (h:Ws J g v u D σ H Q){R:Result->Shared->Prop}(q:∀s' a f,Inv X o6 a f s'->Q a f->R (.ok .next) s'):
  codeAny (model X.prog X.w) X.A (.compStart (.ListComp oI gens sc o7) d (.ref r) (.ref D) X.env) R s:=by
 have L:=BQ i o c p t j y T I S z h q;refine codeAny_of_tree ?_;show wpAny _ _ ((compStart (.ListComp oI gens sc o7) d (.ref r) (.ref D) X.env).onRaise (λx=>do noteFrame x X.env;standAt theWindowsPlace)) _ _ s
 refine wpAny_notedAt ?_;unfold compStart;have l:(clausesOf (.ListComp oI gens sc o7))[d]? =some ⟨tg,o8,ifs,0⟩:=c;rw[l];show wpAny _ _ (ask >>= _) _ _ s;refine cj (wpAny_askSetting (wpAny_ite ?_))
 split
 ·first
   |exact cj (cn (cn (And.intro rfl L)))
   |exact cn (And.intro rfl L)
 ·first
   |exact cj (wpAny_rule (cj (wpAny_standAt (cj (T.self _ 0 s _ _ S (cn (And.intro rfl L)))))))
   |(refine cj (wpAny_rule ?_);show wpAny _ _ (standAt o8.pos >>= _) _ _ s;exact cj (wpAny_standAt (cj (T.self _ 0 s _ _ S (cn (And.intro rfl L))))))
def CP {w:TI}{g:TG}{C:TT}{B:gZ}(b:∀e s,X.xe e s->False)(o:X.calm=true)(c:gens[d+1]? =some ⟨tg,o8,ifs,0⟩)(p:∀g',gens[d+2]? =some g'->g'.is_async=0)(L:PI X tg o8 w)(t:PG X tg g)(n:QJ X ifs C)(M:gB X oI gens sc o7 (d+1) B)
  (j:∀x,foldedSetIterable o8 X.env x=pure x:=by intro _;rfl):gB X oI gens sc o7 d (eN w g C B):=by
 intro P s K H D Q k Q' E I h l;unfold WG;rw[c];refine cj (YU b (zU (L P s K H _ I h) λv s1 U=>?_));refine cj (wpAny_standAt (cj (wpAny_of_eq (j v) ?_)));refine cj (wpAny_holding (YU b (zU U λi Z N=>?_)));obtain⟨it,fp,z,J,A,e,r,T,Zk,Y,q⟩:=N;subst e;refine cj (wpAny_runOwn (Ms b o c p t n M T r Zk Y q λS a y u f=>?_));exact l S a y u f
end
def Z8 (n:Nat)(c:bW)(a:St):St:=List.replicate n none++c.map λi=>(a[i]?).join
def Z5 (M N:bX)(scope:Scope)(n:Nat)(c:bW):Bool:=
 N.length==n+c.length&&(List.range c.length).all λk=>match N[n+k]?,M[c.getD k 0]? with|some x,some y=>x==y&&scope.names.any λz=>z.1==x&&z.2==NameKind.free|_,_=>false
def CV {M:bX}{u:Nat}(h:Z5 M N scope u cap=true):(Z8 u cap σ).length=N.length/\
  ∀(j:Nat)(x:Str)(v:V),N[j]? =some x->(Z8 u cap σ)[j]? =some (some v)->(x,NameKind.free)∈scope.names/\∃i:Nat,M[i]? =some x/\σ[i]? =some (some v):=by
 unfold Z5 at h;rw[ak,aL]at h;obtain⟨B,A⟩:=h;refine⟨by unfold Z8;simp[B],λj x v r E=>?_⟩
 unfold Z8 at E
 by_cases d:j<u
 ·rw[ah (by simpa using d),bg]at E
  split at E<;>cases E
 ·rw[ar (by simpa using d),bq,ay]at E
  cases c:cap[j-u]? with
  |none=>rw[c]at E;cases E|some i=>
   rw[c]at E;have e:(σ[i]?).join=some v:=aC E;have g:j-u<cap.length:=(cu.mp c).1;have H:=cy.mp A (j-u) (cm.mpr g);have p:u+(j-u)=j:=by lia
   rw[p,r]at H;have q:cap.getD (j-u) 0=i:=by rw[aa,c];rfl
   rw[q]at H;cases hm:M[i]? with
   |none=>rw[hm]at H;cases H|some y=>
    rw[hm]at H;rw[ak,aL]at H;obtain⟨n,l⟩:=H;subst n;obtain⟨z,f,a⟩:=List.any_eq_true.mp l;rw[ak,aL,aL]at a;refine⟨?_,i,hm,?_⟩
    ·obtain⟨t,Z⟩:=z
     obtain⟨C,a2⟩:=a;cases C;cases a2;exact f
    ·cases b:σ[i]? with
     |none=>rw[b]at e;cases e|some o=>rw[b]at e;cases o with|none=>cases e|some w=>cases e;rfl
abbrev yh:Value->Shared->Prop:=λ_ _=>False
def XB (K:Frag)(w:TI)(g:TG)(T:TT)(t:gZ)(n:Nat)(c:bW):TE:=λb H Q=>w b H λJ h=>∀D,h D=none->K.lookup D=none->Ws J g T t D (Z8 n c b) (upd h D (.lst [])) λ_ a=>Q (.ref D) a
section
variable {wi:TI}{g:TG}{ti:TT}{tm:gZ}{nl:Nat}
def UU (hc:X.calm=true)(S:gH X sc)(t:Z5 X.N N sc nl cap=true)(ha:∀g',gs[0]? =some g'->g'.is_async=0)(hw:PI X tg o8 wi)
  
  (hin:∀s H fp,Inv X o6 σ H s->(∀b∈fp,w6 X o6 H b)->PG (jI X N sc s H fp yh) tg g/\QJ (jI X N sc s H fp yh) ifs ti/\gB (jI X N sc s H fp yh) oI (⟨tg,o8,ifs,0⟩::gs) sc o7 0 tm)
  {s:Shared}{Q:VK}(I:Inv X o6 σ H s)(h:XB X.K wi g ti tm nl cap σ H Q)
  {use:Option (Value->Sem Unit)}{Q':bY}
  (r:∀(D C:Addr)(s':Shared)(n:Hp)(m:b0),Inv X o6 σ n s'->Q (.ref D) n->s'.heap.Ns C m->n C=none->C≠X.env.locals->X.s0.heap.objs.size<=C->(∀x c,X.env.cells.lookup x=some c->c≠C)->(∀q∈X.pn++o6,q.1≠C)->
   compPost (model X.prog X.w) X.A X.xe use Q' (.ref D) C (.ok .next) s')
  (hs:∀x,foldedSetIterable o8 X.env x=pure x:=by intro _;rfl):
  wpAny (model X.prog X.w) X.A (comprehension (.ListComp oI (⟨tg,o8,ifs,0⟩::gs) sc o7) sc X.env p (newList []) false (eval o8 X.env) use) Q' X.xe s:=by
 have j:∀y∈sc.names,y.2=.free->∃c,X.env.cells.lookup y.1=some c:=λy Y e=>I.ok.has _ (S.free y Y e);refine wpAny_comprehension_free (use:=use) rfl hs (Pp j) S.kind (λy Y e=>by obtain⟨y1,y2⟩:=y;have e':y2=.local:=e;subst e';exact Yk S.nd Y) ?_
 refine zU (hw o6 s σ H _ I h) λv s1 h1=>zU h1 λitv s2 h2=>?_;obtain⟨it,fp,tn,J,M,e,I2,T,Zk,f2,q2⟩:=h2;subst e;refine wpAny_newObj_type ?_;have hD:M s2.heap.objs.size=none:=I2.fresh;have hKD:X.K.lookup s2.heap.objs.size=none:=by
  cases ek:X.K.lookup s2.heap.objs.size with|none=>rfl|some o=>exact absurd (aM (I2.kIn _ _ ek)) (aT _)
 have U:=q2 _ hD hKD;generalize Z:({ s2 with heap:=s2.heap.push { cls:=.type "list",data:=.seq ([]:bS).toArray } }:Shared)=s3
 have f:s3={ s2 with heap:=s2.heap.push { cls:=.type "list",data:=.seq ([]:bS).toArray } }:=Z.symm
 have i:Inv X o6 σ (upd M s2.heap.objs.size (.lst [])) s3:=by rw[f];exact I2.laid (t':=s2.toks) (λb u e=>ag _ e) (ao _) ⟨by simp,[],0,.nil,aD _ rfl⟩
 have B:∀b∈fp,∃o,s2.heap.get? b=some o:=λb a=>let ⟨o,e,_⟩:=T.obj 0 _ Zk b a;⟨o,e⟩
 have P:s3.heap.objs.size=s2.heap.objs.size+1:=by rw[f];exact bp ..
 have ZN:tn 0 s3.heap:=T.keep _ _ _ Zk λb a o e=>by rw[f];exact ag _ e
 have E:∀b∈fp,b<s3.heap.objs.size:=λb a=>by obtain⟨o,e⟩:=B b a;rw[P];exact bj (aM e)
 have L:∀b∈fp,w6 X o6 (upd M s2.heap.objs.size (.lst [])) b:=λb a=>by obtain⟨o,e⟩:=B b a;refine⟨?_,(f2 b a).2⟩;rw[qx (aO (aM e))];exact(f2 b a).1
 generalize upd M s2.heap.objs.size (.lst [])=H3 at i L U;generalize s2.heap.objs.size=D at U ⊢;refine Ir ?_;obtain⟨cl,cs⟩:=CV t (σ:=σ);have I4:=Bs (xe:=yh) i S L E cl cs;obtain⟨hgt,hi,hm⟩:=hin s3 H3 fp i L;refine Ms (X:=jI X N sc s3 H3 fp yh) (gens:=⟨tg,o8,ifs,0⟩::gs) (d:=0) (λ_ _ z=>z) hc rfl ha hgt hi hm T I4 (T.keep _ _ _ ZN λb a o e=>pushCells_keeps _ _ _ _ (ag _ e)) (λb a=>?_) U λs' σ' n l q'=>?_
 ·obtain⟨g1,g2,g3,g4,g5,g6⟩:=L b a
  refine⟨g1,aO (E b a),λz=>?_,.inl a,(I4.ok.exf b a).2,λp hp=>absurd (show p∈([]:bV) from hp) (by simp)⟩
  rcases cw.mp (i.stkSub b z) with e|e
  ·exact g2 e
  ·exact g3 e
 ·have I5:Inv X o6 σ n s':=i.call' l.os l.base l.hok l.bare λb a=>by obtain⟨g1,g2,g3,g4,g5,g6⟩:=L b a;exact⟨g4,g2,g5,g6⟩
  obtain⟨m,hn,_⟩:=l.loc;refine r D _ s' n m I5 q' hn l.free (ne_of_gt i.lt) i.sz (λx c e z=>?_) λq hq z=>?_
  ·obtain⟨v,w⟩:=i.cell x c e
   exact aT _ (aJ w.lt (by rw[z];exact ao _))
  ·exact aT _ (aJ (aM (i.pin q hq).1) (by rw[z];exact ao _))
def AB (d:X.calm=true)(S:gH X sc)(p:Z5 X.N N sc nl cap=true)(i:∀g',gs[0]? =some g'->g'.is_async=0)(w:PI X tg o8 wi)
  (n:∀s H fp,PG (jI X N sc s H fp yh) tg g/\QJ (jI X N sc s H fp yh) ifs ti/\gB (jI X N sc s H fp yh) oI (⟨tg,o8,ifs,0⟩::gs) sc o7 0 tm)
  (c:∀x,foldedSetIterable o8 X.env x=pure x:=by intro _;rfl):PE X (.ListComp oI (⟨tg,o8,ifs,0⟩::gs) sc o7) (XB X.K wi g ti tm nl cap):=by
 intro P s B H Q I h;rw[eval_ListComp];refine UU (use:=none) d S p i w (λs H fp _ _=>n s H fp) I h (λD C v u m t q y A z r l j=>?_) c;exact⟨m,y,λE a=>⟨.ref D,u,t.turned (t':=v.toks) (λb o f e=>(a.2 b f).trans e) A z (.inr r) l j,rfl,q⟩⟩
def EK {p:Pos}{c:Pos}(P:X.N.Nodup)(j:X.N[i]? =some x)(r:X.env.scope.names.lookup x=some .local)
  (w:swapsWith (.ListComp oI (⟨tg,o8,ifs,0⟩::gs) sc o7) (some (.Name x p)) c.line X.env=pure true)
  (J:X.calm=true)(S:gH X sc)(d:Z5 X.N N sc nl cap=true)(M:∀g',gs[0]? =some g'->g'.is_async=0)(hw:PI X tg o8 wi)
  (n:∀s H fp,PG (jI X N sc s H fp yh) tg g/\QJ (jI X N sc s H fp yh) ifs ti/\gB (jI X N sc s H fp yh) oI (⟨tg,o8,ifs,0⟩::gs) sc o7 0 tm)
  (B:∀x,foldedSetIterable o8 X.env x=pure x:=by intro _;rfl):PS X (.Assign [.Name x p] (.ListComp oI (⟨tg,o8,ifs,0⟩::gs) sc o7) c) (XS (XB X.K wi g ti tm nl cap) (Xz i)):=by
 intro o6 s σ H D I h;rw[exec_Assign_Name_used _ _ _ _ w];refine cj (wpAny_standAt (cj ?_));show wpAny _ X.A (do let _ <- comprehension (.ListComp oI (⟨tg,o8,ifs,0⟩::gs) sc o7) sc X.env _ (newList []) false (eval o8 X.env) (some (assign (.Name x p) X.env))) _ _ s
 refine cj (wpAny_mono (UU (use:=some (assign (.Name x p) X.env)) (Q':=λ_ s'=>SP X o6 D .next s') J S d M hw (λs H fp _ _=>n s H fp) I h (λu C s' H' m Z q hn h1 h2 T t Q=>?_) B) (λ_ s' E=>cn (cn E)) λ_ _ e=>e);show wpAny _ X.A (assign (.Name x p) X.env (.ref u)) _ _ _;refine wpAny_assign_Name (PV Z P j (.inl r) (v:=.ref u) rfl (λs2 Y ⟨a,y,U⟩=>?_) (.inr r));have l:C≠a:=by
  rcases U with e|e
  ·rw[e];exact h2
  ·exactλz=>t x a e z.symm
 refine⟨m,hn.sameBut y l,λh' f=>⟨_,H',Y.turned (t':=s2.toks) (λb o L e=>(f.2 b L).trans e) h1 h2 (.inr T) t Q,q⟩⟩
end
end L2
namespace Mi
open PySem PySem.Spec PyProof.Rows L2
abbrev ji (e:PySem.Expr)(E:List PySem.Expr)(X:L2.Cx):Prop:=PySem.starEach (e::E) X.env=(false,PySem.eval e X.env)::PySem.starEach E X.env
abbrev yG (x:PySem.Str):Prop:=(x==("__debug__" : PySem.Str))=false
abbrev QO (X:L2.Cx)(x:PySem.Str):Prop:=X.fn x=true∨X.env.scope.names.lookup x=some .local
abbrev wR (p:PySem.Pos)(e:List PySem.Expr)(X:L2.Cx):Prop:=(PySem.backTo p (PySem.starEach e X.env)).any (·.1)=false
inductive W where
 |non|bl (b:Bool)|int (i:Int)|str (x:Str)|tup (xs:List W)|ref (n:Nat)
 |clo (k:Nat) (xs:List W) (P:Obj->Addr->Obj->List V->Prop)
 |xc (x:Str)
 |fn (x:Str)
inductive O where
 |lst (xs:List W)|ro (xs:List W)|dct (kvs:List (Key×W))
 |td (kvs:List (List Int×W))
 |tr (kvs:List (List Int×W))
 |tab (q:Str) (P:Addr)
theorem O.lst.inj {a b:List W}(h:O.lst a=.lst b):a=b:=by cases h;rfl
def O.mut:O->Bool
 |.ro _=>false|.tr _=>false|_=>true
abbrev Hx:=List O
abbrev En:=List (Option W)
inductive R (α:Type) where
 |ok (a:α) (A:Hx)|exc (x:Str) (A:Hx)|bad
noncomputable def R.bind {b:Type}(r:R α)(f:α->Hx->R b):R b:=match r with|.ok a A=>f a A|.exc x A=>.exc x A|.bad=>.bad
def R.post (r:R α)(P:α->Hx->Prop)(E:Str->Hx->Prop):Prop:=match r with|.ok a A=>P a A|.exc x A=>E x A|.bad=>False
def R.nox (r:R α):R α:=match r with|.ok a A=>.ok a A|.exc _ _=>.bad|.bad=>.bad
section
variable {β:Type}{r:R α}{f:α->Hx->R β}{P Q:α->Hx->Prop}{P':β->Hx->Prop}{E F:Str->Hx->Prop}
def zK {a:α}{A:Hx}:(R.ok a A).bind f=f a A:=rfl
def OB {A:Hx}:(R.exc x A:R α).bind f=.exc x A:=rfl
def zY:(r.bind f).post P' E↔r.post (λa A=>(f a A).post P' E) E:=by cases r<;>exact Iff.rfl
def qD (h:r.post P E)(H:∀a A,P a A->Q a A)(b:∀x A,E x A->F x A):r.post Q F:=by
 cases r with|ok a A=>exact H _ _ h|exc x A=>exact b _ _ h|bad=>exact h
end
abbrev Ev:=En->Hx->R W
inductive zfA (K:Frag)(H:Hp)(R:List V->Prop)(v:V):Prop
 |mk (a:Addr) (vs:List V) (e:v=.ref a) (h:qF K H a vs) (r:R vs)
inductive zfI (H:Hp)(P:Obj->Addr->Obj->List V->Prop)(R:List V->Prop)(v:V):Prop
 |mk (a:Addr) (ob:Obj) (u:HO) (c:Addr) (oc:Obj) (uc:HO) (vs:List V) (e:v=.ref a) (h1:H a=some (.frz ob u)) (h2:H c=some (.frz oc uc)) (p:P ob c oc vs) (r:R vs)
inductive ze2 (R:V->Prop)(Rs:List V->Prop)(vs:List V):Prop
 |mk (v:V) (r:List V) (e:vs=v::r) (h:R v) (t:Rs r)
mutual
def RV (K:Frag)(c:bU)(H:Hp):W->V->Prop
 |.non,v=>v=.non|.bl b,v=>v=.bl b|.int i,v=>v=.int i|.str x,v=>v=.str x|.tup w,v=>zfA K H (zF K c H w) v|.ref n,v=>∃a,v=.ref a/\c[n]? =some a|.clo _ w P,v=>zfI H P (zF K c H w) v|.xc x,v=>∃a o u C,v=.ref a/\H a=some (.frz o u)/\o.cls=.ref C/\nsIn K mainGlobals x=some (some (.ref C))|.fn x,v=>∃a,v=.ref a/\nsIn K mainGlobals x=some (some (.ref a))
def zF (K:Frag)(φ:bU)(H:Hp):List W->List V->Prop
 |[],vs=>vs=[]|w::ws,vs=>ze2 (RV K φ H w) (zF K φ H ws) vs
end
structure Le (K:Frag)(φ:bU)(H:Hp)(oF:bU)(H':Hp):Prop where
 ex:∀(n:Nat)(a:Addr),φ[n]? =some a->oF[n]? =some a
 tp:∀a vs,qF K H a vs->qF K H' a vs
 fr:∀a o,H a=some o->(∀n:Nat,φ[n]?≠some a)->H' a=some o
 nw:∀(n:Nat)(a:Addr),oF[n]? =some a->φ[n]? =some a∨H a=none
 st:∀a,H' a=none->H a=none
 fz:∀a o u,H a=some (.frz o u)->H' a=some (.frz o u)
def Le.refl {K φ H}:Le K φ H φ H:=⟨λ_ _ h=>h,λ_ _ h=>h,λ_ _ h _=>h,λ_ _ h=>.inl h,λ_ h=>h,λ_ _ _ h=>h⟩
def Le.trans {K φ H oJ H1 φ2 H2}(a:Le K φ H oJ H1)(b:Le K oJ H1 φ2 H2):Le K φ H φ2 H2 where
 ex:=λn x h=>b.ex n x (a.ex n x h)
 tp:=λn x h=>b.tp n x (a.tp n x h)
 fr:=λc o h n=>b.fr c o (a.fr c o h n) λk e=>by
  rcases a.nw k c e with e|e
  ·exact n k e
  ·rw[h]at e;cases e
 nw:=λn c e=>by
  rcases b.nw n c e with e|e
  ·exact a.nw n c e
  ·exact .inr (a.st c e)
 st:=λc e=>a.st c (b.st c e)
 fz:=λc o u h=>b.fz c o u (a.fz c o u h)
def Le.off {K φ H oF H'}(l:Le K φ H oF H')(h:H D=some o)(n:∀k:Nat,φ[k]?≠some D):H' D=some o/\∀k:Nat,oF[k]?≠some D:=
 ⟨l.fr D o h n,λk e=>by
  rcases l.nw k D e with e|e
  ·exact n k e
  ·rw[h]at e;cases e⟩
section
variable {K:Frag}{oF:bU}{H':Hp}
structure QS (K:Frag)(φ:bU)(H:Hp)(oF:bU)(H':Hp):Prop where
 ex:∀(n:Nat)(a:Addr),φ[n]? =some a->oF[n]? =some a
 tp:∀a vs,qF K H a vs->qF K H' a vs
 fz:∀a o u,H a=some (.frz o u)->H' a=some (.frz o u)
mutual
theorem RV.monoW (l:QS K φ H oF H'):∀{w:W}{v:V},RV K φ H w v->RV K oF H' w v
 |.non,_,h=>h|.bl _,_,h=>h|.int _,_,h=>h|.str _,_,h=>h|.tup p,_,⟨a,g,e,t,r⟩=>⟨a,g,e,l.tp _ _ t,zF.monoW l r⟩|.ref n,_,⟨a,e,f⟩=>⟨a,e,l.ex _ _ f⟩|.clo _ p P,_,⟨a,ob,u,c,b,U,g,e,j,i,d,r⟩=>⟨a,ob,u,c,b,U,g,e,l.fz _ _ _ j,l.fz _ _ _ i,d,zF.monoW l r⟩|.xc x,_,⟨a,o,u,C,e,j,i⟩=>⟨a,o,u,C,e,l.fz _ _ _ j,i⟩|.fn _,_,h=>h
theorem zF.monoW (l:QS K φ H oF H'):∀{a:List W}{b:List V},zF K φ H a b->zF K oF H' a b
 |[],_,h=>h|w::a,_,⟨v,r,e,h,t⟩=>⟨v,r,e,RV.monoW l h,zF.monoW l t⟩
end
def RV.mono {w:W}(h:RV K φ H w v)(l:Le K φ H oF H'):RV K oF H' w v:=RV.monoW ⟨l.ex,l.tp,l.fz⟩ h
def zF.mono {w:List W}{v:List V}(h:zF K φ H w v)(l:Le K φ H oF H'):zF K oF H' w v:=zF.monoW ⟨l.ex,l.tp,l.fz⟩ h
structure kq (K:Frag)(D:Addr)(φ:bU)(H:Hp)(oF:bU)(H':Hp):Prop where
 ex:∀(n:Nat)(a:Addr),φ[n]? =some a->oF[n]? =some a
 tp:∀a vs,qF K H a vs->qF K H' a vs
 fr:∀a o,a≠D->H a=some o->(∀n:Nat,φ[n]?≠some a)->H' a=some o
 nw:∀(n:Nat)(a:Addr),oF[n]? =some a->φ[n]? =some a∨H a=none
 st:∀a,H' a=none->H a=none
 fz:∀a o u,H a=some (.frz o u)->H' a=some (.frz o u)
def kq.refl {D}:kq K D φ H φ H:=⟨λ_ _ h=>h,λ_ _ h=>h,λ_ _ _ h _=>h,λ_ _ h=>.inl h,λ_ h=>h,λ_ _ _ h=>h⟩
def Le.toD {D}(l:Le K φ H oF H'):kq K D φ H oF H':=⟨l.ex,l.tp,λa o _ h n=>l.fr a o h n,l.nw,l.st,l.fz⟩
def kq.trans {D oJ H1 φ2 H2}(a:kq K D φ H oJ H1)(b:kq K D oJ H1 φ2 H2):kq K D φ H φ2 H2 where
 ex:=λn x h=>b.ex n x (a.ex n x h)
 tp:=λn x h=>b.tp n x (a.tp n x h)
 fr:=λc o N h n=>b.fr c o N (a.fr c o N h n) λk e=>by
  rcases a.nw k c e with e|e
  ·exact n k e
  ·rw[h]at e;cases e
 nw:=λn c e=>by
  rcases b.nw n c e with e|e
  ·exact a.nw n c e
  ·exact .inr (a.st c e)
 st:=λc e=>a.st c (b.st c e)
 fz:=λc o u h=>b.fz c o u (a.fz c o u h)
def RV.monoD {D}{w:W}(h:RV K φ H w v)(l:kq K D φ H oF H'):RV K oF H' w v:=RV.monoW ⟨l.ex,l.tp,l.fz⟩ h
def zF.monoD {D}{w:List W}{v:List V}(h:zF K φ H w v)(l:kq K D φ H oF H'):zF K oF H' w v:=zF.monoW ⟨l.ex,l.tp,l.fz⟩ h
theorem zF.length:∀{a:List W}{b:List V},zF K φ H a b->a.length=b.length
 |[],_,h=>by cases h;rfl|w::a,_,⟨v,r,e,_,t⟩=>by subst e;simp[zF.length t]
theorem zF.get:∀{a:List W}{b:List V}{i:Nat}{w:W},zF K φ H a b->a[i]? =some w->∃v,b[i]? =some v/\RV K φ H w v
 |[],_,_,_,_,e=>by simp at e|w::a,_,0,_,⟨v,r,e,h,t⟩,q=>by subst e;simp at q;subst q;exact⟨v,by simp,h⟩|w::a,_,i+1,x,⟨v,r,e,h,t⟩,q=>by
  subst e;obtain⟨y,d,c⟩:=zF.get (i:=i) (w:=x) t (by simpa using q)
  exact⟨y,by simpa using d,c⟩
theorem zF.append:∀{a u:List W}{b x:List V},zF K φ H a b->zF K φ H u x->zF K φ H (a++u) (b++x)
 |[],_,_,_,h,t=>by cases h;exact t|w::a,_,_,_,⟨v,r,e,h,t⟩,T=>by subst e;exact⟨v,r++_,rfl,h,zF.append t T⟩
def zF.one {w:W}(h:RV K φ H w v):zF K φ H [w] [v]:=⟨v,[],rfl,h,rfl⟩
def zF.nil:zF K φ H [] []:=rfl
def zF.cons {w:W}{v:V}{a:List W}{vs:List V}(h:RV K φ H w v)(t:zF K φ H a vs):zF K φ H (w::a) (v::vs):=⟨v,vs,rfl,h,t⟩
theorem zF.set {w:W}(q:RV K φ H w v):∀{b:List W}{c:List V}(i:Nat),zF K φ H b c->zF K φ H (b.set i w) (c.set i v)
 |[],_,_,h=>by cases h;exact rfl|_::_,_,0,⟨a,r,e,h,t⟩=>by subst e;exact⟨v,r,rfl,q,t⟩|_::_,_,i+1,⟨a,r,e,h,t⟩=>by subst e;exact⟨a,_,rfl,h,zF.set q i t⟩
theorem zF.drop:∀{w:List W}{a:List V}(n:Nat),zF K φ H w a->zF K φ H (w.drop n) (a.drop n)
 |[],_,n,h=>by cases h;rw[List.drop_nil,List.drop_nil];exact zF.nil|_::_,_,0,h=>by simpa using h|_::_,_,n+1,⟨v,r,e,h,t⟩=>by subst e;simpa using zF.drop n t
theorem zF.take:∀{w:List W}{a:List V}(n:Nat),zF K φ H w a->zF K φ H (w.take n) (a.take n)
 |[],_,n,h=>by cases h;rw[List.take_nil,List.take_nil];exact zF.nil|_::_,_,0,h=>by rw[take_zero,take_zero];exact zF.nil|_::_,_,n+1,⟨v,r,e,h,t⟩=>by subst e;exact⟨v,_,rfl,h,zF.take n t⟩
theorem zF.erase:∀{w:List W}{a:List V}(n:Nat),zF K φ H w a->zF K φ H (w.eraseIdx n) (a.eraseIdx n)
 |[],_,n,h=>by cases h;rw[List.eraseIdx_nil,List.eraseIdx_nil];exact zF.nil|_::_,_,0,⟨v,r,e,h,t⟩=>by subst e;simpa using t|_::_,_,n+1,⟨v,r,e,h,t⟩=>by subst e;exact⟨v,_,rfl,h,zF.erase n t⟩
theorem zF.ints:∀{ns:bR}{vs:List V},zF K φ H (ns.map W.int) vs↔vs=ns.map V.int
 |[],vs=>Iff.rfl|n::ns,vs=>by
  constructor
  ·rintro⟨v,r,e,h,t⟩
   rw[e,(show v=V.int n from h),zF.ints.mp t];rfl
  ·intro e
   exact⟨V.int n,ns.map V.int,e,rfl,zF.ints.mpr rfl⟩
def Kk (K:Frag)(H:Hp)(a:Addr)(x:List V):Prop:=
 (∃ob,H a=some (.frz ob (.lst x)))∨
  ∃(o:Obj) (oE:Array Value) (n:Nat),K.lookup a=some o/\o.cls=.type "list" /\ o.dict=none/\o.data=.seq oE n/\oE.size<=sizeLine/\Vals x oE.toList
def Kk.sq (h:Kk K H a xs):q9 K H a xs:=by
 rcases h with h|h
 ·exact .inl (.inr h)
 ·exact .inr h
inductive TabAt (H:Hp)(q:Str)(cv:Value):Prop
 |mk (c:Addr) (oc:Obj) (u:HO) (vs:Array Value) (t:Tok) (e:cv=.ref c) (h:H c=some (.frz oc u)) (d:oc.data=.fields vs/\vs[1]? =some (.str q t))
def Wx (H:Hp)(q:Str)(ps:Array Value):Prop:=TriplesOk ps.toList/\∀p c,codeAmong p ps.toList=some c->TabAt H q c
def Wx.mono {q:Str}{ps:Array Value}(h:Wx H q ps)(l:∀a o u,H a=some (.frz o u)->H' a=some (.frz o u)):Wx H' q ps:=
 ⟨h.1,λp C e=>by obtain⟨c,b,u,v,t,g,f,d⟩:=h.2 p C e;exact⟨c,b,u,v,t,g,l _ _ _ f,d⟩⟩
def hT (K:bR):Int:=reduceHash (Builtin.Tuple.tupleHashOf (K.map hashInt))
def eO (a:Addr)(X:List (List Int×Addr×V))(h:Heap):Prop:=(a==sysModules)=false/\X.length<=sizeLine/\∃z:List (List Int×Addr×Value),
 Paired (λ(p:List Int×Addr×V) (q:List Int×Addr×Value)=>p.1=q.1/\p.2.1=q.2.1/\RelV p.2.2 q.2.2) X z/\
 ∃o e E,h.get? a=some o/\o.ExactDict/\o.data=.dict e E/\e.toList=z.map (λx=>(⟨hT x.1,.ref x.2.1,x.2.2⟩:DictEntry))/\(z.map (·.1)).Nodup
def eQ (a:Addr)(X:List (List Int×Addr×V))(o:Obj):Prop:=(a==sysModules)=false/\X.length<=sizeLine/\∃z:List (List Int×Addr×Value),
 Paired (λ(p:List Int×Addr×V) (q:List Int×Addr×Value)=>p.1=q.1/\p.2.1=q.2.1/\RelV p.2.2 q.2.2) X z/\
 ∃e E,o.ExactDict/\o.data=.dict e E/\e.toList=z.map (λx=>(⟨hT x.1,.ref x.2.1,x.2.2⟩:DictEntry))/\(z.map (·.1)).Nodup
def OR (K:Frag)(c:bU)(H:Hp)(a:Addr):O->Prop
 |.lst w=>∃v,H a=some (.lst v)/\zF K c H w v|.ro w=>∃v,Kk K H a v/\zF K c H w v|.dct b=>∃U,H a=some (.dK U)/\U.map (·.1)=b.map (·.1)/\zF K c H (b.map (·.2)) (U.map (·.2))|.td b=>∃X:List (List Int×Addr×V),H a=some (.ext (eO a X))/\X.map (·.1)=b.map (·.1)/\(∀x∈X,qF K H x.2.1 (x.1.map V.int))/\zF K c H (b.map (·.2)) (X.map (·.2.2))|.tr b=>∃(ob:Obj) (u:HO) (X:List (List Int×Addr×V)),H a=some (.frz ob u)/\eQ a X ob/\X.map (·.1)=b.map (·.1)/\(∀x∈X,qF K H x.2.1 (x.1.map V.int))/\zF K c H (b.map (·.2)) (X.map (·.2.2))|.tab q P=>a=P/\∃ps,H a=some (.tbl ps)/\Wx H q ps
structure zL (K:Frag)(φ:bU)(A:Hx)(H:Hp):Prop where
 len:φ.length=A.length
 inj:∀(i j:Nat)(a:Addr)(o o':O),φ[i]? =some a->φ[j]? =some a->A[i]? =some o->A[j]? =some o'->o.mut=true->o'.mut=true->i=j
 ob:∀(n:Nat)(o:O),A[n]? =some o->∃a,φ[n]? =some a/\OR K φ H a o
variable {A:Hx}
def OR.there {o:O}(h:OR K φ H a o)(m:o.mut=true):∃u,H a=some u/\(∀x,u≠.tup x)/\(∀ob v,u≠.frz ob v):=by
 cases o with|lst w=>obtain⟨b,e,_⟩:=h;exact⟨_,e,λ_ z=>(by cases z),λ_ _ z=>(by cases z)⟩|ro w=>cases m|dct c=>obtain⟨b,e,_⟩:=h;exact⟨_,e,λ_ z=>(by cases z),λ_ _ z=>(by cases z)⟩|td c=>obtain⟨b,e,_⟩:=h;exact⟨_,e,λ_ z=>(by cases z),λ_ _ z=>(by cases z)⟩|tr _=>cases m|tab q P=>obtain⟨_,b,e,_⟩:=h;exact⟨_,e,λ_ z=>(by cases z),λ_ _ z=>(by cases z)⟩
def GS (h:qF K H a vs)(n:∀x,H b≠some (.tup x))(N:∀ob u,H b≠some (.frz ob u)):qF K (upd H b o) a vs:=by
 rcases h with (h|⟨ob,h⟩)|h
 ·exact .inl (.inl (by rw[qx];exact h;intro e;subst e;exact n _ h))
 ·exact .inl (.inr ⟨ob,by rw[qx];exact h;intro e;subst e;exact N _ _ h⟩)
 ·exact .inr h
theorem Le.upd {k:Nat}(c:φ[k]? =some b)(n:∀x,H b≠some (.tup x))(N:∀ob u,H b≠some (.frz ob u)):Le K φ H φ (upd H b o) where
 ex:=λ_ _ h=>h
 tp:=λ_ _ h=>GS h n N
 fr:=λa u h z=>by rw[qx];exact h;intro e;subst e;exact z k c
 nw:=λ_ _ h=>.inl h
 st:=λa h=>by
  by_cases e:a=b
  ·subst e;rw[jY]at h;cases h
  ·rw[qx e]at h;exact h
 fz:=λa ob u h=>by rw[qx];exact h;intro e;subst e;exact N _ _ h
def Le.new {p:Addr}(b:H p=none):Le K φ H φ (L2.upd H p o) where
 ex:=λ_ _ h=>h
 tp:=λ_ _ h=>GS h (λx z=>by rw[b]at z;cases z) (λ_ _ z=>by rw[b]at z;cases z)
 fr:=λa u h z=>by rw[qx];exact h;intro e;subst e;rw[b]at h;cases h
 nw:=λ_ _ h=>.inl h
 st:=λa h=>by
  by_cases e:a=p
  ·subst e;rw[jY]at h;cases h
  ·rw[qx e]at h;exact h
 fz:=λa ob u h=>by rw[qx];exact h;intro e;subst e;rw[b]at h;cases h
def Le.alloc {p:Addr}(b:H p=none):Le K φ H (φ++[p]) (L2.upd H p o) where
 ex:=λn a h=>by
  have:=(cu.mp h).1
  rw[ah this];exact h
 tp:=(Le.new (φ:=φ) b).tp
 fr:=(Le.new (K:=K) (φ:=φ) b).fr
 nw:=λn a h=>by
  by_cases c:n < φ.length
  ·rw[ah c]at h;exact .inl h
  ·rw[ar (by lia)]at h
   have e:a=p:=by
    have:=mem_of_getElem? h
    simpa using this
   subst e;exact .inr b
 st:=(Le.new (K:=K) (φ:=φ) b).st
 fz:=(Le.new (K:=K) (φ:=φ) b).fz
def Le.ofD (b:H D=none)(l:kq K D φ (L2.upd H D o) oF H'):Le K φ H oF H' where
 ex:=l.ex
 tp:=λa v h=>l.tp a v ((Le.new (K:=K) (φ:=φ) b).tp a v h)
 fr:=λa u h n=>by
  have N:a≠D:=by rintro rfl;rw[b]at h;cases h
  exact l.fr a u N (by rw[qx N];exact h) n
 nw:=λn a e=>by
  rcases l.nw n a e with e|e
  ·exact .inl e
  ·by_cases h:a=D
   ·subst h;rw[jY]at e;cases e
   ·rw[qx h]at e;exact .inr e
 st:=λa e=>by
  have E:=l.st a e
  by_cases h:a=D
  ·subst h;rw[jY]at E;cases E
  ·rw[qx h]at E;exact E
 fz:=λa ob u h=>l.fz a ob u (by rw[qx];exact h;rintro rfl;rw[b]at h;cases h)
theorem kq.upd (b:H D=some (.lst xs)):kq K D φ H φ (L2.upd H D o) where
 ex:=λ_ _ h=>h
 tp:=λa v h=>GS h (λxs z=>by rw[b]at z;cases z) (λ_ _ z=>by rw[b]at z;cases z)
 fr:=λa u N h n=>by rw[qx N];exact h
 nw:=λ_ _ h=>.inl h
 st:=λa e=>by
  by_cases h:a=D
  ·subst h;rw[jY]at e;cases e
  ·rw[qx h]at e;exact e
 fz:=λa ob u h=>by rw[qx];exact h;intro e;subst e;rw[b]at h;cases h
def OR.keep {o:O}(h:OR K φ H a o)(l:Le K φ H oF H')(e:∀u,H a=some u->H' a=some u):OR K oF H' a o:=by
 cases o with
 |lst w=>obtain⟨v,q,r⟩:=h;exact⟨v,e _ q,r.mono l⟩|dct c=>obtain⟨v,q,k,r⟩:=h;exact⟨v,e _ q,k,r.mono l⟩|td c=>obtain⟨v,q,k,t,r⟩:=h;exact⟨v,e _ q,k,λx b=>l.tp _ _ (t x b),r.mono l⟩|tr c=>obtain⟨ob,u,v,q,d,k,t,r⟩:=h;exact⟨ob,u,v,e _ q,d,k,λx b=>l.tp _ _ (t x b),r.mono l⟩|tab q P=>obtain⟨k,ps,q,r⟩:=h;exact⟨k,ps,e _ q,r.mono l.fz⟩|ro w=>
  obtain⟨v,q,r⟩:=h;refine⟨v,?_,r.mono l⟩;rcases q with ⟨ob,q⟩|q
  ·exact .inl ⟨ob,e _ q⟩
  ·exact .inr q
theorem zL.alloc {p:Addr}{u:HO}{o:O}(S:zL K φ A H)(g:H p=none)(new:OR K (φ++[p]) (L2.upd H p u) p o):Le K φ H (φ++[p]) (L2.upd H p u)/\zL K (φ++[p]) (A++[o]) (L2.upd H p u):=by
 have l:Le K φ H (φ++[p]) (L2.upd H p u):=Le.alloc g;have C:∀(i:Nat) a,(φ++[p])[i]? =some a->i<A.length->φ[i]? =some a:=λi a e b=>by rw[ah (by rw[S.len];exact b)]at e;exact e
 refine⟨l,by simp[S.len],λi j a x w I D f c J M=>?_,λn L e=>?_⟩
 ·by_cases b:i<A.length
  ·by_cases d:j<A.length
   ·rw[ah b]at f
    rw[ah d]at c;exact S.inj i j a x w (C i a I b) (C j a D d) f c J M
   ·exfalso
    rw[ah b]at f;have t:j=A.length:=by have:=(cu.mp c).1;simp at this;lia
    subst t;rw[ar (by rw[S.len];exact ao _),S.len]at D
    simp at D;obtain⟨B,E,q⟩:=S.ob i x f;rw[C i a I b]at E;cases E;obtain⟨z,h,_⟩:=q.there J;rw[<- D,g]at h;cases h
  ·have v:i=A.length:=by have:=(cu.mp f).1;simp at this;lia
   by_cases d:j<A.length
   ·exfalso
    rw[ah d]at c;subst v;rw[ar (by rw[S.len];exact ao _),S.len]at I
    simp at I;obtain⟨B,E,q⟩:=S.ob j w c;rw[C j a D d]at E;cases E;obtain⟨z,h,_⟩:=q.there M;rw[<- I,g]at h;cases h
   ·have:=(cu.mp c).1;simp at this;lia
 ·by_cases N:n<A.length
  ·rw[ah N]at e
   obtain⟨a,E,q⟩:=S.ob n L e;refine⟨a,l.ex _ _ E,q.keep l λz h=>?_⟩;rw[qx];exact h;intro y;subst y;rw[g]at h;cases h
  ·have r:n=A.length:=by have:=(cu.mp e).1;simp at this;lia
   subst r;rw[ar (ao _)]at e;simp at e;subst e;exact⟨p,by rw[ar (by rw[S.len];exact ao _),S.len];simp,new⟩
def zL.write {p:Addr}{u:HO}{o o':O}(S:zL K φ A H)(Z:A[n]? =some o)(m:o.mut=true)(U:o'.mut=true)(c:φ[n]? =some p)(new:OR K φ (L2.upd H p u) p o'):
  Le K φ H φ (L2.upd H p u)/\zL K φ (A.set n o') (L2.upd H p u):=by
 obtain⟨T,e,q⟩:=S.ob n o Z;rw[c]at e;cases e;obtain⟨z,h,I,N⟩:=q.there m;have l:Le K φ H φ (L2.upd H p u):=Le.upd c (λxs e=>by rw[h]at e;exact I xs (aC e)) λob v e=>by rw[h]at e;exact N ob v (aC e)
 have mt:∀(i:Nat)(w:O),(A.set n o')[i]? =some w->w.mut=true->∃f,A[i]? =some f/\f.mut=true:=λi w e M=>by
  by_cases X:i=n
  ·subst X;exact⟨o,Z,m⟩
  ·rw[aw (Ne.symm X)]at e;exact⟨w,e,M⟩
 refine⟨l,by simp[S.len],λi j a D C h1 h2 P L m1 m2=>?_,λi w e=>?_⟩
 ·obtain⟨y,E,k1⟩:=mt i D P m1
  obtain⟨g,Q,k2⟩:=mt j C L m2;exact S.inj i j a y g h1 h2 E Q k1 k2
 ·by_cases X:i=n
  ·subst X
   have:i<A.length:=(cu.mp Z).1
   rw[av this]at e;cases e;exact⟨p,c,new⟩
  ·rw[aw (Ne.symm X)]at e
   obtain⟨a,E,r⟩:=S.ob i w e;refine⟨a,E,?_⟩
   by_cases Y:w.mut=true
   ·have ne:a≠p:=λz=>X (S.inj i n a w o E (by rw[z];exact c) e Z Y m)
    exact r.keep l λz h=>by rw[qx ne];exact h
   ·cases w with
    |lst _=>exact absurd rfl Y|dct _=>exact absurd rfl Y|td _=>exact absurd rfl Y|tr _=>obtain⟨ob,u,vs,q,d,k,t,r⟩:=r;exact⟨ob,u,vs,l.fz _ _ _ q,d,k,λx J=>l.tp _ _ (t x J),r.mono l⟩|tab _ _=>exact absurd rfl Y|ro ws=>
     obtain⟨vs,b,B⟩:=r;refine⟨vs,?_,B.mono l⟩;rcases b with ⟨ob,b⟩|b
     ·refine .inl ⟨ob,?_⟩
      rw[qx];exact b;intro z;subst z;rw[h]at b;exact N _ _ (aC b)
     ·exact .inr b
def zL.lay {p:Addr}{u:HO}(S:zL K φ A H)(b:H p=none):zL K φ A (L2.upd H p u):=
 ⟨S.len,S.inj,λn o e=>by obtain⟨a,c,q⟩:=S.ob n o e;refine⟨a,c,q.keep (Le.new b) λz h=>?_⟩;rw[qx];exact h;intro E;subst E;rw[b]at h;cases h⟩
def zL.off (S:zL K φ A H)(b:H D=some (.lst xs))(n:∀k:Nat,φ[k]?≠some D):zL K φ A (L2.upd H D o):=
 ⟨S.len,S.inj,λk u e=>by
  obtain⟨a,E,q⟩:=S.ob k u e;have N:a≠D:=λz=>n k (by rw[<- z];exact E)
  have l:kq K D φ H φ (L2.upd H D o):=kq.upd b;refine⟨a,E,?_⟩;cases u with
  |lst w=>obtain⟨v,q,r⟩:=q;exact⟨v,by rw[qx N];exact q,r.monoD l⟩|dct c=>obtain⟨v,q,k,r⟩:=q;exact⟨v,by rw[qx N];exact q,k,r.monoD l⟩|td c=>obtain⟨v,q,k,t,r⟩:=q;exact⟨v,by rw[qx N];exact q,k,λx h=>l.tp _ _ (t x h),r.monoD l⟩|tr c=>obtain⟨ob,u,v,q,d,k,t,r⟩:=q;exact⟨ob,u,v,l.fz _ _ _ q,d,k,λx h=>l.tp _ _ (t x h),r.monoD l⟩|tab _ _=>obtain⟨k,v,q,r⟩:=q;exact⟨k,v,by rw[qx N];exact q,r.mono l.fz⟩|ro w=>
   obtain⟨v,q,r⟩:=q;refine⟨v,?_,r.monoD l⟩;rcases q with ⟨ob,q⟩|q
   ·exact .inl ⟨ob,by rw[qx N];exact q⟩
   ·exact .inr q⟩
def zL.notin (S:zL K φ A H)(b:H D=none)(d:K.lookup D=none):∀k:Nat,φ[k]?≠some D:=λk e=>by
 have c:k<A.length:=by rw[<- S.len];exact(cu.mp e).1
 obtain⟨a,E,q⟩:=S.ob k A[k] (by simp[c])
 rw[e]at E;cases E;cases h:A[k] with
 |lst w=>rw[h]at q;obtain⟨v,z,_⟩:=q;rw[b]at z;cases z|dct w=>rw[h]at q;obtain⟨v,z,_⟩:=q;rw[b]at z;cases z|td _=>rw[h]at q;obtain⟨v,z,_⟩:=q;rw[b]at z;cases z|tr _=>rw[h]at q;obtain⟨_,_,_,z,_⟩:=q;rw[b]at z;cases z|tab _ _=>rw[h]at q;obtain⟨_,v,z,_⟩:=q;rw[b]at z;cases z|ro w=>
  rw[h]at q;obtain⟨v,z,_⟩:=q;rcases z with ⟨ob,z⟩|⟨o,i,n,z,_⟩
  ·rw[b]at z;cases z
  ·rw[d]at z;cases z
def zL.Y1 {u:HO}{o:O}(S:zL K φ A H)(I:H D=some u)(n:∀k:Nat,φ[k]?≠some D)(new:OR K (φ++[D]) H D o):zL K (φ++[D]) (A++[o]) H:=by
 have l:QS K φ H (φ++[D]) H:=⟨λn a h=>by
  have:=(cu.mp h).1
  rw[ah this];exact h,λ_ _ h=>h,λ_ _ _ h=>h⟩
 have L:∀(i:Nat) a,(φ++[D])[i]? =some a->i<A.length->φ[i]? =some a:=λi a e b=>by rw[ah (by rw[S.len];exact b)]at e;exact e
 have M:∀a,(φ++[D])[A.length]? =some a->a=D:=λa e=>by
  rw[ar (by rw[S.len];exact ao _),S.len]at e
  simpa using e.symm
 refine⟨by simp[S.len],λi j a C B P N y f X U=>?_,λk T e=>?_⟩
 ·by_cases b:i<A.length
  ·by_cases c:j<A.length
   ·rw[ah b]at y
    rw[ah c]at f;exact S.inj i j a C B (L i a P b) (L j a N c) y f X U
   ·exfalso
    have v:j=A.length:=by have:=(cu.mp f).1;simp at this;lia
    subst v;exact n i (by rw[<- M a N];exact L i a P b)
  ·have w:i=A.length:=by have:=(cu.mp y).1;simp at this;lia
   by_cases c:j<A.length
   ·exfalso
    subst w;exact n j (by rw[<- M a P];exact L j a N c)
   ·have:=(cu.mp f).1;simp at this;lia
 ·by_cases Y:k<A.length
  ·rw[ah Y]at e
   obtain⟨a,E,q⟩:=S.ob k T e;refine⟨a,l.ex _ _ E,?_⟩;cases T with|lst Q=>obtain⟨J,z,r⟩:=q;exact⟨J,z,r.monoW l⟩|dct Q=>obtain⟨J,z,Z,r⟩:=q;exact⟨J,z,Z,r.monoW l⟩|td _=>obtain⟨J,z,Z,t,r⟩:=q;exact⟨J,z,Z,λx g=>l.tp _ _ (t x g),r.monoW l⟩|tr _=>obtain⟨ob,u,J,z,d,Z,t,r⟩:=q;exact⟨ob,u,J,z,d,Z,λx g=>l.tp _ _ (t x g),r.monoW l⟩|tab _ _=>exact q|ro Q=>obtain⟨J,z,r⟩:=q;exact⟨J,z,r.monoW l⟩
  ·have p:k=A.length:=by have:=(cu.mp e).1;simp at this;lia
   subst p;rw[ar (ao _)]at e;simp at e;subst e;exact⟨D,by rw[ar (by rw[S.len];exact ao _),S.len];simp,new⟩
def Le.Y1 {b:bU}{c:Hp}(l:Le K b c φ H)(g:c D=none):Le K b c (φ++[D]) H where
 ex:=λn a h=>by
  have d:=l.ex n a h
  have:=(cu.mp d).1
  rw[ah this];exact d
 tp:=l.tp
 fr:=l.fr
 nw:=λn a e=>by
  by_cases f:n < φ.length
  ·rw[ah f]at e;exact l.nw n a e
  ·rw[ar (by lia)]at e
   have E:a=D:=by
    have:=mem_of_getElem? e
    simpa using this
   subst E;exact .inr g
 st:=l.st
 fz:=l.fz
end
abbrev St:=L2.St
abbrev XR:=Str->Hp->Prop
def PB (K:Frag)(b:bU)(H:Hp)(Q:VK):W->Hx->Prop:=λw A=>∀a h v,Le K b H a h->zL K a A h->RV K a h w v->Q v h
def eR (K:Frag)(b:bU)(H:Hp)(Q:List V->Hp->Prop):List W->Hx->Prop:=λw A=>∀a h v,Le K b H a h->zL K a A h->zF K a h w v->Q v h
def EB (K:Frag)(b:bU)(H:Hp)(X:XR):Str->Hx->Prop:=λx A=>∀a h,Le K b H a h->zL K a A h->X x h
structure RE (K:Frag)(φ:bU)(H:Hp)(ρ:En)(σ:St):Prop where
 len:σ.length=ρ.length
 get:∀(i:Nat)(w:W),ρ[i]? =some (some w)->∃v,σ[i]? =some (some v)/\RV K φ H w v
section
variable {K:Frag}{oJ oF:bU}{H1 H':Hp}{A:Hx}{ρ:En}{xr:XR}
theorem RE.mono (r:RE K φ H ρ σ)(l:Le K φ H oF H'):RE K oF H' ρ σ:=⟨r.len,λi w e=>let ⟨v,a,h⟩:=r.get i w e;⟨v,a,h.mono l⟩⟩
def PB.mono {Q:VK}{w:W}(h:PB K φ H Q w A)(l:Le K φ H oJ H1):PB K oJ H1 Q w A:=λa b v L=>h a b v (l.trans L)
def EB.mono (h:EB K φ H xr x A)(l:Le K φ H oJ H1):EB K oJ H1 xr x A:=λa b L=>h a b (l.trans L)
theorem RE.set {w:W}(r:RE K φ H ρ σ)(q:RV K φ H w v):RE K φ H (ρ.set i (some w)) (σ.set i (some v)):=
 ⟨by simp[r.len],λj u e=>by
  by_cases h:i=j
  ·subst h
   have a:i < ρ.length:=by
    have:=(cu.mp e).1
    simpa using this
   rw[av a]at e;cases e;exact⟨v,by rw[av (by rw[r.len];exact a)],q⟩
  ·rw[aw h]at e
   obtain⟨x,c,b⟩:=r.get j u e;exact⟨x,by rw[aw h];exact c,b⟩⟩
end
inductive MM (K:Frag)(xr:XR)(m:Ev)(σ:St)(H:Hp)(Q:VK):Prop
 |mk (φ:bU) (A:Hx) (ρ:En) (S:zL K φ A H) (re:RE K φ H ρ σ) (h:(m ρ A).post (PB K φ H Q) (EB K φ H xr))
def tM (K:Frag)(x:XR)(m:Ev):TE:=λa H Q=>MM K x m a H Q
inductive MT (K:Frag)(xr:XR)(m:Ev)(σ:St)(H:Hp)(Q:Bool->Hp->Prop):Prop
 |mk (φ:bU) (A:Hx) (ρ:En) (S:zL K φ A H) (re:RE K φ H ρ σ) (h:(m ρ A).post (λw A'=>∃b,w=.bl b/\∀oF H',Le K φ H oF H'->zL K oF A' H'->Q b H') (EB K φ H xr))
def tT (K:Frag)(x:XR)(m:Ev):TT:=λa H Q=>MT K x m a H Q
abbrev Ea:=En->Hx->R (List W)
inductive MA (K:Frag)(xr:XR)(m:Ea)(σ:St)(H:Hp)(Q:List V->Hp->Prop):Prop
 |mk (φ:bU) (A:Hx) (ρ:En) (S:zL K φ A H) (re:RE K φ H ρ σ) (h:(m ρ A).post (eR K φ H Q) (EB K φ H xr))
def Vs (K:Frag)(x:XR)(m:Ea):TA:=λa H Q=>MA K x m a H Q
def SE (X:Cx)(x:XR)(e:Expr)(m:Ev):Prop:=PE X e (tM X.K x m)
def ST (X:Cx)(x:XR)(e:Expr)(m:Ev):Prop:=PT X e (tT X.K x m)
def SW (X:Cx)(x:XR)(e:Expr)(m:Ev):Prop:=PW X e (tT X.K x m)
def SA (X:Cx)(x:XR)(e:bZ)(m:Ea):Prop:=PA X e (Vs X.K x m)
section
variable {xr:XR}{a b:Expr}{es:bZ}{m ma mb mc:Ev}
def PE.imp {t T:TE}(h:PE X e t)(i:∀σ H Q,T σ H Q->t σ H Q):PE X e T:=λp s σ H Q I w=>h p s σ H Q I (i σ H Q w)
def PT.imp {t T:TT}(h:PT X e t)(i:∀σ H Q,T σ H Q->t σ H Q):PT X e T:=λp s σ H Q I w=>h p s σ H Q I (i σ H Q w)
def PW.imp {t T:TT}(h:PW X e t)(i:∀σ H Q,T σ H Q->t σ H Q):PW X e T:=λw p s σ H Q I a=>h w p s σ H Q I (i σ H Q a)
def PA.imp {t T:TA}(h:PA X es t)(i:∀σ H Q,T σ H Q->t σ H Q):PA X es T:=λp P s σ H Q I w=>h p P s σ H Q I (i σ H Q w)
def tM.go {K:Frag}{A:Hx}{c:En}{Q:VK}{G:W->Hx->Prop}(S:zL K φ A H)(r:RE K φ H c σ)(h:(m c A).post G (EB K φ H xr))
  (k:∀w A1 a b v,G w A1->Le K φ H a b->zL K a A1 b->RV K a b w v->Q v b):tM K xr m σ H Q:=
 ⟨φ,A,c,S,r,qD h (λw A1 g a b v l s q=>k w A1 a b v g l s q) λ_ _ z=>z⟩
def Vs.go {K:Frag}{A:Hx}{c:En}{m:Ea}{Q:List V->Hp->Prop}{G:List W->Hx->Prop}(S:zL K φ A H)(r:RE K φ H c σ)(h:(m c A).post G (EB K φ H xr))
  (k:∀w A1 a b v,G w A1->Le K φ H a b->zL K a A1 b->zF K a b w v->Q v b):Vs K xr m σ H Q:=
 ⟨φ,A,c,S,r,qD h (λw A1 g a b v l s q=>k w A1 a b v g l s q) λ_ _ z=>z⟩
def tT.go {K:Frag}{A:Hx}{c:En}{Q:Bool->Hp->Prop}{G:W->Hx->Prop}(S:zL K φ A H)(r:RE K φ H c σ)(h:(m c A).post G (EB K φ H xr))
  (k:∀w A1,G w A1->∃b,w=.bl b/\∀a d,Le K φ H a d->zL K a A1 d->Q b d):tT K xr m σ H Q:=
 ⟨φ,A,c,S,r,qD h (λw A1 g=>k w A1 g) λ_ _ z=>z⟩
noncomputable def zS (i:Nat):Ev:=λa A=>match a[i]? with|some (some w)=>.ok w A|_=>.bad
noncomputable def zW (w:W):Ev:=λ_ A=>.ok w A
def zh (g:W->W->Hx->R W)(a b:Ev):Ev:=λc A=>(a c A).bind λx e=>(b c e).bind λy d=>g x y d
def gE (g:W->Hx->R W)(a:Ev):Ev:=λb A=>(a b A).bind λx c=>g x c
abbrev ZM:Str->Hx->Prop:=λ_ _=>False
def yF (K:Frag)(r:R2)(g:W->W->Hx->R W):Prop:=∀a A H x y u v Q,zL K a A H->RV K a H u x->RV K a H v y->(g u v A).post (PB K a H Q) ZM->r x y H Q
def Rx (K:Frag)(r:V->Hp->VK->Prop)(g:W->Hx->R W):Prop:=∀a A H x u Q,zL K a A H->RV K a H u x->(g u A).post (PB K a H Q) ZM->r x H Q
def qY (r:R α):Prop:=∀x A,r≠.exc x A
def YD {r:R α}{P:α->Hx->Prop}{E:Str->Hx->Prop}(n:qY r)(h:r.post P E):r.post P ZM:=by
 cases r with|ok a A=>exact h|exc x A=>exact absurd rfl (n x A)|bad=>exact h
def zh.read {g:W->W->Hx->R W}{r:R2}(p:∀x y A,qY (g x y A))(e:yF X.K r g):∀σ H Q,tM X.K xr (zh g ma mb) σ H Q->WM r (tM X.K xr ma) (tM X.K xr mb) σ H Q:=by
 rintro σ H Q ⟨C,A,D,S,n,h⟩
 refine tM.go S n (zY.mp h) λw I b E v u l i d=>?_;refine tM.go i (n.mono l) (qD (zY.mp u) (λ_ _ z=>z) λ_ _ z=>z.mono l) λc B a j o t L f q=>?_;exact e a B j v o w c Q f (d.mono L) q (qD (YD (p _ _ _) t) (λ_ _ z=>z.mono (l.trans L)) λ_ _ z=>z)
def gE.read {g:W->Hx->R W}{r:V->Hp->VK->Prop}(n:∀x A,qY (g x A))(b:Rx X.K r g):∀σ H Q,tM X.K xr (gE g ma) σ H Q->L7 r (tM X.K xr ma) σ H Q:=by
 rintro σ H Q ⟨j,A,o,S,e,h⟩
 refine tM.go S e (zY.mp h) λw i a f v d l c q=>?_;exact b a i f v w Q c q (qD (YD (n _ _) d) (λ_ _ z=>z.mono l) λ_ _ z=>z)
def ZG {o:Operator}{r:R2}{g:W->W->Hx->R W}(h:qU X (binaryOp o) r)(n:∀x y A,qY (g x y A))(H:yF X.K r g)(d:SE X xr a ma)(c:SE X xr b mb):SE X xr (.BinOp a o b o7) (zh g ma mb):=
 PE.imp (dz h d c) (zh.read n H)
def eS {o:UnaryOp}{r:V->Hp->VK->Prop}{g:W->Hx->R W}(h:Vr X (unaryOp o) r)(n:∀x A,qY (g x A))(H:Rx X.K r g)(b:SE X xr a ma):SE X xr (.UnaryOp o a o7) (gE g ma):=
 PE.imp (Mw h b) (gE.read n H)
def N8 {r:R2}{g:W->W->Hx->R W}(h:qU X (compareOp op) r)(n:∀x y A,qY (g x y A))(H:yF X.K r g)(d:SE X xr a ma)(c:SE X xr b mb)(e:behindInMarks op b=false):SE X xr (.Compare a [op] [b] o7) (zh g ma mb):=
 PE.imp (Aq h d c e) (zh.read n H)
def tT.toM {K:Frag}{Q:Bool->Hp->Prop}(h:tT K xr m σ H Q):tM K xr m σ H λx f=>∃k,x=.bl k/\Q k f:=by obtain⟨i,A,j,S,r,h⟩:=h;refine tM.go S r h λw n a g v ⟨b,e,q⟩ l d c=>?_;subst e;exact⟨b,c,q a g l d⟩
def eT {r:R2}{g:W->W->Hx->R W}(o:qU X (compareOp op) r)(n:∀x y A,qY (g x y A))(c:yF X.K r g)(e:SE X xr a ma)(d:SE X xr b mb)(i:behindInMarks op b=false):ST X xr (.Compare a [op] [b] o7) (zh g ma mb):=
 PT.imp (Aj o e d i) λf H Q h=>zh.read n c f H _ h.toM
def gI (g h:W->W->Hx->R W)(a b c:Ev):Ev:=λf A=>(a f A).bind λx j=>(b f j).bind λy i=>(g x y i).bind λz d=>match z with|.bl true=>(c f d).bind λw e=>h y w e|.bl false=>.ok (.bl false) d|_=>.bad
def gI.read {g g':W->W->Hx->R W}{r i:R2}(hn:∀x y A,qY (g x y A))(U:yF X.K r g)(n:∀x y A,qY (g' x y A))(o:yF X.K i g'):
  ∀σ H Q,tM X.K xr (gI g g' ma mb mc) σ H Q->T4 r i (tM X.K xr ma) (tM X.K xr mb) (tM X.K xr mc) σ H Q:=by
 rintro σ H Q ⟨φ,A,ρ,S,re,h⟩
 refine tM.go S re (zY.mp h) λw A1 I H1 v h1 L S1 T=>?_;refine tM.go S1 (re.mono L) (qD (zY.mp h1) (λ_ _ z=>z) λ_ _ z=>z.mono L) λf A2 b E v2 h2 C S2 t=>?_;have j:=L.trans C;have p:=zY.mp h2;have a:(g w f A2).post (PB X.K b E λz c=>∃k,z=.bl k/\if k=true then tM X.K xr mc σ c λM q=>i v2 M q Q else Q (.bl false) c) ZM:=by
  refine qD (YD (hn _ _ _) p) (λz A3 a e c zv B D P=>?_) λ_ _ z=>z;have l:=j.trans B;cases z with
  |bl k=>
   refine⟨k,P,?_⟩;cases k with
   |true=>
    rw[ai rfl];refine tM.go D (re.mono l) (qD (zY.mp a) (λ_ _ z=>z) λ_ _ z=>z.mono l) λJ A4 d q v4 Y u Z N=>?_;exact o d A4 q v2 v4 f J Q Z ((t.mono B).mono u) N (qD (YD (n _ _ _) Y) (λ_ _ z=>z.mono (l.trans u)) λ_ _ z=>z)
   |false=>
    rw[aj aH];exact a e c _ l D rfl
  |non=>cases a|int _=>cases a|str _=>cases a|tup _=>cases a|ref _=>cases a|clo _ _ _=>cases a|xc _=>cases a|fn _=>cases a
 exact U b A2 E v v2 w f _ S2 (T.mono C) t a
def Bz {c:Expr}{o:CmpOp}{r e:R2}{g p:W->W->Hx->R W}(f:qU X (compareOp op) r)(q:∀x y A,qY (g x y A))(i:yF X.K r g)(h:qU X (compareOp o) e)(H:∀x y A,qY (p x y A))(d:yF X.K e p)
  (n:SE X xr a ma)(l:SE X xr b mb)(j:SE X xr c mc)(t:lastMarks [op,o] [b,c]=false:=by with_unfolding_all rfl):SE X xr (.Compare a [op,o] [b,c] o7) (gI g p ma mb mc):=
 PE.imp (Bn f h n l j t) (gI.read q i H d)
def Bc {c:Expr}{o:CmpOp}{r i:R2}{g t:W->W->Hx->R W}(j:qU X (compareOp op) r)(v:∀x y A,qY (g x y A))(l:yF X.K r g)(d:qU X (compareOp o) i)(e:∀x y A,qY (t x y A))(f:yF X.K i t)
  (q:SE X xr a ma)(p:SE X xr b mb)(n:SE X xr c mc)(w:lastMarks [op,o] [b,c]=false:=by with_unfolding_all rfl):ST X xr (.Compare a [op,o] [b,c] o7) (gI g t ma mb mc):=
 PT.imp (D7 j d q p n w) λu H Q h=>gI.read v l e f u H _ h.toM
def wF (a b:Ev):Ev:=λc A=>(a c A).bind λx d=>match x with|.bl true=>b c d|.bl false=>.ok (.bl false) d|_=>.bad
def ZR (a b:Ev):Ev:=λc A=>(a c A).bind λx d=>match x with|.bl true=>.ok (.bl true) d|.bl false=>b c d|_=>.bad
def kh (a:Ev):Ev:=λb A=>(a b A).bind λx c=>match x with|.bl k=>.ok (.bl (!k)) c|_=>.bad
def eU (c a b:Ev):Ev:=λd A=>(c d A).bind λx e=>match x with|.bl true=>a d e|.bl false=>b d e|_=>.bad
theorem tT.mono {K:Frag}{c:bU}{g:Hp}{A:Hx}{f:En}{Q:Bool->Hp->Prop}(S:zL K c A g)(L:Le K φ H c g)(r:RE K φ H f σ)
  (h:(m f A).post (λw A'=>∃b,w=.bl b/\∀a d,Le K φ H a d->zL K a A' d->Q b d) (EB K φ H xr)):tT K xr m σ g Q:=
 ⟨c,A,f,S,r.mono L,qD h (λw A' ⟨b,e,q⟩=>⟨b,e,λa d l s=>q a d (L.trans l) s⟩) λ_ _ z=>z.mono L⟩
def zr:Ea:=λ_ A=>.ok [] A
def zi (a:Ev)(r:Ea):Ea:=λb A=>(a b A).bind λx d=>(r b d).bind λX c=>.ok (x::X) c
def Xe:SA X xr [] zr:=PA.imp yn λb H Q ⟨a,A,c,S,r,h⟩=>h a H [] .refl S .nil
def KW {M:Ea}(f:SE X xr e ma)(r:SA X xr es M)(d:ji e es X:=by rfl):SA X xr (e::es) (zi ma M):=
 PA.imp (jt f r d) λx H Q ⟨u,A,y,S,o,h⟩=>by refine tM.go S o (zY.mp h) λw E b C v t l i c=>?_;refine Vs.go i (o.mono l) (qD (zY.mp t) (λ_ _ z=>z) λ_ _ z=>z.mono l) λn D a j B p L g q=>?_;exact p a j _ (l.trans L) g (.cons (c.mono L) q)
def qP (a:Ea):Ev:=λb A=>(a b A).bind λx c=>.ok (.tup x) c
def qA (a:Ea):Ev:=λc A=>(a c A).bind λx b=>.ok (.ref b.length) (b++[.lst x])
def JP {K:Frag}{A:Hx}{p:Addr}{w:List W}(S:zL K φ A H)(h:H p=none)(r:zF K φ H w vs):
  Le K φ H φ (upd H p (.tup vs))/\zL K φ A (upd H p (.tup vs))/\RV K φ (upd H p (.tup vs)) (.tup w) (.ref p):=
 ⟨Le.new h,S.lay h,p,vs,rfl,qF.of jY,r.mono (Le.new h)⟩
def Q8 {K:Frag}{A:Hx}{p:Addr}{w:List W}(S:zL K φ A H)(h:H p=none)(r:zF K φ H w vs):
  Le K φ H (φ++[p]) (upd H p (.lst vs))/\zL K (φ++[p]) (A++[.lst w]) (upd H p (.lst vs))/\RV K (φ++[p]) (upd H p (.lst vs)) (.ref A.length) (.ref p):=by
 have l:Le K φ H (φ++[p]) (upd H p (.lst vs)):=Le.alloc h;obtain⟨b,a⟩:=S.alloc (o:=.lst w) h ⟨vs,jY,r.mono l⟩;exact⟨b,a,p,rfl,by rw[<- S.len];simp⟩
def eV {M:Ea}(h:SA X xr es M)(c:∀ρ A ws A',M ρ A=.ok ws A'->ws.length<=sizeLine):SE X xr (.List es o7) (qA M):=
 PE.imp (dX h) λn H Q ⟨i,A,ρ,S,r,h⟩=>by
  have g:=zY.mp h;cases e:M ρ A with
  |ok ws A'=>
   rw[e]at g;refine⟨i,A,ρ,S,r,?_⟩;rw[e];intro a o v l f q;refine⟨by rw[<- q.length];exact c ρ A ws A' e,λp b=>?_⟩
   obtain⟨j,a2,d⟩:=Q8 f b q;exact g _ _ _ (l.trans j) a2 d
  |exc x A'=>rw[e]at g;refine⟨i,A,ρ,S,r,?_⟩;rw[e];exact g|bad=>rw[e]at g;exact g.elim
end
inductive Fl where
 |nx (ρ:En)|rt (w:W)|bk (ρ:En)|ct (ρ:En)
abbrev Ex:=En->Hx->R Fl
def FB (K:Frag)(d:bU)(H:Hp)(D:Ends):Fl->Hx->Prop
 |.nx c,A=>∀a h b,Le K d H a h->zL K a A h->RE K a h c b->D.nx b h|.rt w,A=>∀a h v,Le K d H a h->zL K a A h->RV K a h w v->D.rt v h|.bk c,A=>∀a h b,Le K d H a h->zL K a A h->RE K a h c b->D.bk b h|.ct c,A=>∀a h b,Le K d H a h->zL K a A h->RE K a h c b->D.ct b h
def FB.mono {K:Frag}{c:bU}{e:Hp}{D:Ends}{f:Fl}{A:Hx}(h:FB K φ H D f A)(l:Le K φ H c e):FB K c e D f A:=by
 cases f with|nx d=>exactλa b v L=>h a b v (l.trans L)|rt d=>exactλa b v L=>h a b v (l.trans L)|bk d=>exactλa b v L=>h a b v (l.trans L)|ct d=>exactλa b v L=>h a b v (l.trans L)
inductive MS (K:Frag)(xr:XR)(m:Ex)(D:Ends)(σ:St)(H:Hp):Prop
 |mk (φ:bU) (A:Hx) (ρ:En) (S:zL K φ A H) (re:RE K φ H ρ σ) (h:(m ρ A).post (FB K φ H D) (EB K φ H xr))
def tS (K:Frag)(x:XR)(m:Ex):TS:=λD a H=>MS K x m D a H
def SS (X:Cx)(x:XR)(S:Stmt)(m:Ex):Prop:=PS X S (tS X.K x m)
def Yb (X:Cx)(x:XR)(S:cg)(m:Ex):Prop:=yV X S (tS X.K x m)
section
variable {xr:XR}{a b c:Expr}{st:Stmt}{oK:cg}{m:Ev}{m1 m2:Ex}
def PS.imp {t T:TS}(h:PS X st t)(i:∀D σ H,T D σ H->t D σ H):PS X st T:=λp s σ H D I w=>h p s σ H D I (i D σ H w)
def yV.imp {t T:TS}(h:yV X oK t)(i:∀D σ H,T D σ H->t D σ H):yV X oK T:=λp s σ H D I w=>h p s σ H D I (i D σ H w)
def zV:Ex:=λa A=>.ok (.nx a) A
def zy (d M:Ex):Ex:=λc A=>(d c A).bind λl b=>match l with|.nx a=>M a b|f=>.ok f b
def yx (m:Ev):Ex:=λa A=>(m a A).bind λ_ b=>.ok (.nx a) b
def wG (m:Ev):Ex:=λa A=>(m a A).bind λw b=>.ok (.rt w) b
def jB (c:Ev)(a b:Ex):Ex:=λd A=>(c d A).bind λx e=>match x with|.bl true=>a d e|.bl false=>b d e|_=>.bad
def qd (i:Nat)(m:Ev):Ex:=λa A=>(m a A).bind λw b=>.ok (.nx (a.set i (some w))) b
def qd.read:∀D σ H,tS X.K xr (qd i m) D σ H->XS (tM X.K xr m) (Xz i) D σ H:=by
 rintro D σ H ⟨e,A,f,S,r,h⟩
 exact tM.go S r (zY.mp h) λw g a d v c l b q=>c a d _ l b ((r.mono l).set q)
def YS (g:W->W->W->Hx->R Unit)(e M d:Ev):Ex:=λc A=>(e c A).bind λv h=>(M c h).bind λo f=>(d c f).bind λi b=>(g o i v b).bind λ_ a=>.ok (.nx c) a
def Mp (K:Frag)(t:J6)(g:W->W->W->Hx->R Unit):Prop:=∀c A H o i v w b wv Q,zL K c A H->RV K c H w o->RV K c H b i->RV K c H wv v->
 (g w b wv A).post (λ_ d=>∀a h,Le K c H a h->zL K a d h->Q h) ZM->t o i v H Q
def CA {o i:Expr}{mo mi:Ev}{t:J6}{g:W->W->W->Hx->R Unit}(ht:X2 X t)(hn:∀o i v A,qY (g o i v A))(U:Mp X.K t g)(he:SE X xr e m)(P:SE X xr o mo)(T:SE X xr i mi)
  (N:swapsWithSole [.Subscript o i oG] e o7.line X.env=pure false:=by rfl)(hw:swappedStores [.Subscript o i oG] e X.env=pure none:=by rfl)
  (h1:(assignEach [.Subscript o i oG] X.env).map (·.2)=[assign (.Subscript o i oG) X.env]:=by rfl)
  (Y:∀v,assign (.Subscript o i oG) X.env v=(do
   let ov <- holding [v] (eval o X.env)
   let iv <- holding [v,ov] (eval i X.env)
   standAt oG
   holding [v,ov,iv] (setItem ov iv v)
   release [v,ov,iv] []):=by intro _;rfl):SS X xr (.Assign [.Subscript o i oG] e o7) (YS g m mo mi):=
 PS.imp (Mg he (de P T ht Y) N hw h1) λD σ H ⟨φ,A,ρ,S,re,h⟩=>by
  refine tM.go S re (zY.mp h) λn A1 E H1 v1 h1 f S1 M=>?_;refine tM.go S1 (re.mono f) (qD (zY.mp h1) (λ_ _ z=>z) λ_ _ z=>z.mono f) λj A2 C H2 v2 h2 q S2 J=>?_;have l:=f.trans q;refine tM.go S2 (re.mono l) (qD (zY.mp h2) (λ_ _ z=>z) λ_ _ z=>z.mono l) λw B c H3 I a d S3 Q=>?_;have L:=l.trans d;refine U c B H3 v2 I v1 j w n _ S3 (J.mono d) Q (M.mono (q.trans d)) ?_;cases r:g j w n B with
  |ok u y=>
   rw[r]at a;exactλb H4 p Z=>a b H4 σ (L.trans p) Z (re.mono (L.trans p))
  |exc x y=>exact absurd r (hn _ _ _ _ x y)|bad=>rw[r]at a;exact a.elim
structure jA where
 at_:Hx->Nat->Option (Option W)
 len:Nat
def Qb (K:Frag)(c:bU)(H:Hp)(j:jA)(J:It):Prop:=∀i a h A,QS K c H a h->zL K a A h->
 (∀w,j.at_ A i=some (some w)->J.go i h/\∀x b,J.yld i h x b->Le K a h a b/\zL K a A b/\RV K a b w x)/\(j.at_ A i=some none->J.stop i h)
abbrev Ei:=En->Hx->R jA
inductive MI (K:Frag)(xr:XR)(mi:Ei)(σ:St)(H:Hp)(Rr:It->Hp->Prop):Prop
 |mk (φ:bU) (A:Hx) (ρ:En) (S:zL K φ A H) (re:RE K φ H ρ σ) (h:(mi ρ A).post (λj A1=>∀oJ H1 J,Le K φ H oJ H1->zL K oJ A1 H1->Qb K oJ H1 j J->Rr J H1) (EB K φ H xr))
def tI (K:Frag)(x:XR)(M:Ei):TI:=λa H r=>MI K x M a H r
def SI (X:Cx)(x:XR)(t i:Expr)(M:Ei):Prop:=PI X t i (tI X.K x M)
def PI.imp {t T:TI}(h:PI X tg e t)(i:∀σ H Q,T σ H Q->t σ H Q):PI X tg e T:=λp s σ H Q I w=>h p s σ H Q I (i σ H Q w)
abbrev Tg:=W->En->Option En
inductive MG (K:Frag)(tw:Tg)(v:V)(σ:St)(H:Hp)(Q:St->Hp->Prop):Prop
 |mk (φ:bU) (A:Hx) (ρ:En) (w:W) (ρ':En) (S:zL K φ A H) (re:RE K φ H ρ σ) (rv:RV K φ H w v) (t:tw w ρ=some ρ') (q:∀σ',RE K φ H ρ' σ'->Q σ' H)
def tG (K:Frag)(t:Tg):TG:=λv a H Q=>MG K t v a H Q
def SG (X:Cx)(t:Expr)(T:Tg):Prop:=PG X t (tG X.K T)
def PG.imp {t T:TG}(h:PG X tg t)(i:∀v σ H Q,T v σ H Q->t v σ H Q):PG X tg T:=λp s σ H v u Q I r w=>h p s σ H v u Q I r (i v σ H Q w)
def zM (i:Nat):Tg:=λw a=>some (a.set i (some w))
def jH (i j:Nat):Tg:=λw a=>match w with|.tup [x,y]=>some ((a.set i (some x)).set j (some y))|_=>none
def j3 (j:jA)(S:W->Ex):Nat->Nat->Ex
 |0,i,ρ,A=>match j.at_ A i with|some none=>.ok (.nx ρ) A|_=>.bad
 |f+1,i,ρ,A=>match j.at_ A i with
  |some none=>.ok (.nx ρ) A|some (some w)=>(S w ρ A).bind λl b=>match l with|.nx a=>j3 j S f (i+1) a b|.ct a=>j3 j S f (i+1) a b|.bk a=>.ok (.nx a) b|.rt w=>.ok (.rt w) b
  |none=>.bad
def turn (t:Tg)(b:Ex)(w:W):Ex:=λc A=>match t w c with|some a=>b a A|none=>.bad
def jD (M:Ei)(t:Tg)(b:Ex):Ex:=λa A=>(M a A).bind λj c=>j3 j (turn t b) j.len 0 a c
inductive LK (K:Frag)(xr:XR)(j:jA)(t:W->Ex)(D:Ends)(oJ:bU)(H1:Hp)(f i:Nat)(σ':St)(H':Hp):Prop
 |mk (φ2:bU) (A2:Hx) (ρ2:En) (l:Le K oJ H1 φ2 H') (S:zL K φ2 A2 H') (re:RE K φ2 H' ρ2 σ') (h:(j3 j t f i ρ2 A2).post (FB K φ2 H' D) (EB K φ2 H' xr))
noncomputable def QG (c:Ev)(b:Ex):Nat->Ex
 |0,ρ,A=>.bad|f+1,ρ,A=>(c ρ A).bind λx e=>match x with
  |.bl true=>(b ρ e).bind λl d=>match l with|.nx a=>QG c b f a d|.ct a=>QG c b f a d|.bk a=>.ok (.nx a) d|.rt w=>.ok (.rt w) d
  |.bl false=>.ok (.nx ρ) e|_=>.bad
def eW (f:Nat)(c:Ev)(b:Ex):Ex:=QG c b f
def QE (n:Nat)(c:bW)(a:En):En:=List.replicate n none++c.map λi=>(a[i]?).join
theorem RE.Z8 {K:Frag}{b:En}{n:Nat}(r:RE K φ H b σ):RE K φ H (QE n cap b) (L2.Z8 n cap σ):=by
 refine⟨by simp[QE,L2.Z8],λi w e=>?_⟩
 unfold QE at e;unfold L2.Z8
 by_cases d:i<n
 ·rw[ah (by simpa using d),bg]at e
  split at e<;>cases e
 ·rw[ar (by simpa using d),bq,ay]at e
  rw[ar (by simpa using d),bq,ay]
  cases c:cap[i-n]? with
  |none=>rw[c]at e;cases e|some k=>
   rw[c]at e;have E:(b[k]?).join=some w:=aC e;cases h:b[k]? with
   |none=>rw[h]at E;cases E|some o=>cases o with
    |none=>rw[h]at E;cases E|some a=>
     rw[h]at E;cases E;obtain⟨v,g,f⟩:=r.get k w h;exact⟨v,by simp[g],f⟩
abbrev Em:=En->List W->Hx->R (En×List W)
noncomputable def zX:Nat:=100000
def qe (e:Ev):Em:=λb a A=>(e b A).bind λy c=>if a.length<zX then .ok (b,a++[y]) c else .bad
def jc (j:jA)(t:Tg)(I:Ev)(e:Em):Nat->Nat->Em
 |0,i,ρ,acc,A=>match j.at_ A i with|some none=>.ok (ρ,acc) A|_=>.bad
 |f+1,i,ρ,acc,A=>match j.at_ A i with
  |some none=>.ok (ρ,acc) A|some (some w)=>match t w ρ with
   |some a=>(I a A).bind λc b=>match c with|.bl true=>(e a acc b).bind λp d=>jc j t I e f (i+1) p.1 p.2 d|.bl false=>jc j t I e f (i+1) a acc b|_=>.bad
   |none=>.bad
  |none=>.bad
def Jb (M:Ei)(t:Tg)(i:Ev)(e:Em):Em:=λb a A=>(M b A).bind λj c=>jc j t i e j.len 0 b a c
abbrev jT:=En->Hx->R (List W)
def qy (n:Nat)(c:bW)(M:Ei)(t:Tg)(i:Ev)(e:Em):jT:=λa A=>(M a A).bind λj d=>(jc j t i e j.len 0 (QE n c a) [] d).nox.bind λp b=>.ok p.2 b
def Ry (K:Frag)(D:Addr)(c:bU)(H:Hp)(Q:St->Hp->Prop)(p:En×List W)(A:Hx):Prop:=∀a h b z,kq K D c H a h->(∀k:Nat,a[k]?≠some D)->zL K a A h->RE K a h p.1 b->h D=some (.lst z)->zF K a h p.2 z->Q b h
inductive ME (K:Frag)(em:Em)(D:Addr)(σ:St)(H:Hp)(Q:St->Hp->Prop):Prop
 |mk (φ:bU) (A:Hx) (ρ:En) (acc:List W) (ys:List V) (S:zL K φ A H) (re:RE K φ H ρ σ) (hD:H D=some (.lst ys)) (nD:∀k:Nat,φ[k]?≠some D) (rv:zF K φ H acc ys)
  (h:(em ρ acc A).post (Ry K D φ H Q) ZM)
def tE (K:Frag)(e:Em):gZ:=λD a H Q=>ME K e D a H Q
abbrev jX:XR:=λ_ _=>False
def SM (X:Cx)(e:Expr)(g:List Comprehension)(S:Scope)(c:Pos)(d:Nat)(E:Em):Prop:=gB X e g S c d (tE X.K E)
def gB.imp {d:Nat}{t T:gZ}(h:gB X oI gens sc o7 d t)(i:∀D σ H Q,T D σ H Q->t D σ H Q):gB X oI gens sc o7 d T:=
 λp s σ H D Q k q E I w a=>h p s σ H D Q k q E I (i D σ H Q w) a
def UK {K:Frag}{r:R α}{P:α->Hx->Prop}(h:r.post P ZM):r.post P (EB K φ H jX):=qD h (λ_ _ z=>z) λ_ _ z=>z.elim
def WS (X:Cx)(i:bZ)(m:Ev):Prop:=QJ X i (tT X.K jX m)
inductive LU (tw:Tg)(ifs:Ev)(em:Em)(j:jA)(K:Frag)(D:Addr)(φ:bU)(H:Hp)(Q:St->Hp->Prop)(f i:Nat)(σ':St)(H':Hp):Prop
 |mk (φ2:bU) (A2:Hx) (ρ2:En) (acc2:List W) (ys2:List V) (l:kq K D φ H φ2 H') (S:zL K φ2 A2 H') (re:RE K φ2 H' ρ2 σ') (hD:H' D=some (.lst ys2)) (nD:∀k:Nat,φ2[k]?≠some D) (ra:zF K φ2 H' acc2 ys2) (h:(jc j tw ifs em f i ρ2 acc2 A2).post (Ry K D φ H Q) ZM)
def jc.read {tw:Tg}{ifs:Ev}{em:Em}{j:jA}{J:It}{K:Frag}{A:Hx}{ρ:En}{acc:List W}{Q:St->Hp->Prop}{f:Nat}
  (jr:Qb K φ H j J)
  (S:zL K φ A H)(re:RE K φ H ρ σ)(hD:H D=some (.lst ys))(nD:∀k:Nat,φ[k]?≠some D)(ra:zF K φ H acc ys)
  (h:(jc j tw ifs em f 0 ρ acc A).post (Ry K D φ H Q) ZM):
  Ws J (tG K tw) (tT K jX ifs) (tE K em) D σ H Q:=by
 refine⟨λi f b P=>LU tw ifs em j K D φ H Q f i b P,
  ⟨f,φ,A,ρ,acc,ys,.refl,S,re,hD,nD,ra,h⟩,?_⟩
 rintro i f U H2 ⟨e,A2,q,d,Y,B,S2,t,M,u,l,h2⟩
 obtain⟨j1,j2⟩:=jr i e H2 A2 ⟨B.ex,B.tp,B.fz⟩ S2;cases E:j.at_ A2 i with
 |none=>cases f<;>(unfold jc at h2;rw[E]at h2;exact h2.elim)|some o=>
  cases o with
  |none=>
   left
   refine⟨j2 E,?_⟩;cases f<;>(unfold jc at h2;rw[E]at h2;exact h2 e H2 U Y B u S2 t M l)
  |some w=>
   right
   obtain⟨go,yl⟩:=j1 w E;cases f with
   |zero=>unfold jc at h2;rw[E]at h2;exact h2.elim|succ f=>
    unfold jc at h2;rw[E]at h2;refine⟨go,λb P=>LU tw ifs em j K D φ H Q f (i+1) b P,λb P z=>⟨f,bA _,z⟩,λx H3 y=>?_⟩;obtain⟨v,S3,q3⟩:=yl x H3 y;obtain⟨hD3,Z⟩:=v.off M u;dsimp only at h2;cases et:tw w q with
    |none=>rw[et]at h2;exact h2.elim|some g=>
     rw[et]at h2;refine⟨e,A2,q,w,g,S3,t.mono v,q3,et,λσ3 r=>?_⟩;refine tT.go S3 r (UK (zY.mp h2)) λc A4 a=>?_;cases c with
     |bl k=>
      refine⟨k,rfl,λn H4 L S4=>?_⟩;obtain⟨I,N⟩:=L.off hD3 Z;have C:=(B.trans (v.trans L).toD);cases k with
      |true=>
       rw[ai rfl];refine⟨n,A4,g,d,Y,S4,r.mono L,I,N,l.mono (v.trans L),qD (zY.mp a) (λp A5 h5 T H5 σ5 zs l5 n5 S5 X d5 r5=>?_) λ_ _ z=>z⟩;exact⟨T,A5,p.1,p.2,zs,C.trans l5,S5,X,d5,n5,r5,h5⟩
      |false=>
       rw[aj aH];exact⟨n,A4,g,d,Y,C,S4,r.mono L,I,N,l.mono (v.trans L),a⟩
     |non=>cases a|int _=>cases a|str _=>cases a|tup _=>cases a|ref _=>cases a|clo _ _ _=>cases a|xc _=>cases a|fn _=>cases a
def Qb.mono {K:Frag}{b:bU}{f:Hp}{j:jA}{J:It}(h:Qb K φ H j J)(l:QS K φ H b f):Qb K b f j J:=
 λi c d A L=>h i c d A ⟨λn a e=>L.ex n a (l.ex n a e),λa v e=>L.tp a v (l.tp a v e),λa o u e=>L.fz a o u (l.fz a o u e)⟩
inductive MF (K:Frag)(xr:XR)(mq:jT)(σ:St)(H:Hp)(Q:VK):Prop
 |mk (φ:bU) (A:Hx) (ρ:En) (S:zL K φ A H) (re:RE K φ H ρ σ) (h:(mq ρ A).post (λws A1=>∀oJ H1 D ys,Le K φ H oJ H1->zL K oJ A1 H1->H D=none->H1 D=some (.lst ys)->(∀k:Nat,oJ[k]?≠some D)->zF K oJ H1 ws ys->Q (.ref D) H1) (EB K φ H xr))
def tF (K:Frag)(x:XR)(mq:jT):TE:=λa H Q=>MF K x mq a H Q
def SF (X:Cx)(x:XR)(e:Expr)(mq:jT):Prop:=PE X e (tF X.K x mq)
theorem qy.read {P:Ei}{T:Tg}{M:Ev}{E:Em}{B:Nat}:∀σ H Q,tF X.K xr (qy B cap P T M E) σ H Q->XB X.K (tI X.K xr P) (tG X.K T) (tT X.K jX M) (tE X.K E) B cap σ H Q:=by
 rintro σ H Q ⟨Y,A,C,S,I,h⟩
 refine⟨Y,A,C,S,I,qD (zY.mp h) (λj A1 h1 b U J l g q D c t=>?_) λ_ _ z=>z⟩;have y:Le X.K b U b (upd U D (.lst [])):=Le.new c;have a:=zY.mp h1;refine jc.read (q.mono ⟨y.ex,y.tp,y.fz⟩) (g.lay c) ((I.mono (l.trans y)).Z8) jY (g.notin c t) .nil ?_ (f:=j.len) (acc:=[]);cases e:jc j T M E j.len 0 (QE B cap C) [] A1 with
 |ok p A2=>
  rw[e]at a;intro d w i Z o N v r u n;have L:=l.trans (Le.ofD c o);exact a d w D Z L v (l.st D c) u N n
 |exc x A2=>rw[e]at a;exact a.elim|bad=>rw[e]at a;exact a.elim
def jW (q:jT):Ev:=λb A=>(q b A).bind λw a=>.ok (.ref a.length) (a++[.lst w])
def jW.read {q:jT}{K:Frag}:∀σ H Q,tM K xr (jW q) σ H Q->tF K xr q σ H Q:=by
 rintro σ H Q ⟨f,A,g,S,i,h⟩
 refine⟨f,A,g,S,i,qD (zY.mp h) (λw u p b e D y L d t c N r=>?_) λ_ _ z=>z⟩;have l:Le K f H (b++[D]) e:=L.Y1 t;have j:QS K b e (b++[D]) e:=⟨λn a h=>by
  have:=(cu.mp h).1
  rw[ah this];exact h,λ_ _ h=>h,λ_ _ _ h=>h⟩
 refine p _ _ _ l (d.Y1 (o:=.lst w) c N ⟨y,c,r.monoW j⟩) ⟨D,rfl,?_⟩;rw[<- d.len];simp
inductive MQ (K:Frag)(xr:XR)(mq:jT)(σ:St)(H:Hp)(Q:VK):Prop
 |mk (φ:bU) (A:Hx) (ρ:En) (S:zL K φ A H) (re:RE K φ H ρ σ) (h:(mq ρ A).post (λws A1=>∀oJ H1 a ys,Le K φ H oJ H1->zL K oJ A1 H1->(q9 K H1 a ys∨qF K H1 a ys)->zF K oJ H1 ws ys->Q (.ref a) H1) (EB K φ H xr))
def tQ (K:Frag)(x:XR)(mq:jT):TE:=λa H Q=>MQ K x mq a H Q
def SQ (X:Cx)(x:XR)(e:Expr)(mq:jT):Prop:=PE X e (tQ X.K x mq)
noncomputable def zI (w:W)(A:Hx):Option (List W):=match w with
 |.tup a=>some a|.ref n=>match A[n]? with|some (.lst a)=>some a|some (.ro a)=>some a|_=>none
 |_=>none
def Gp {K:Frag}{A:Hx}{w:W}{g:List W}(S:zL K φ A H)(q:RV K φ H w v)(e:zI w A=some g):∃a y,v=.ref a/\(q9 K H a y∨qF K H a y)/\zF K φ H g y:=by
 unfold zI at e;cases w with
 |tup x=>cases e;obtain⟨a,y,b,c,E⟩:=q;exact⟨a,y,b,.inr c,E⟩|ref n=>
  obtain⟨a,b,c⟩:=q;dsimp only at e;cases ea:A[n]? with
  |none=>rw[ea]at e;cases e|some o=>
   rw[ea]at e;obtain⟨d,E,r⟩:=S.ob n o ea;rw[c]at E;cases E;cases o with|lst x=>cases e;obtain⟨y,f,h⟩:=r;exact⟨a,y,b,.inl (q9.of f),h⟩|ro x=>cases e;obtain⟨y,f,h⟩:=r;exact⟨a,y,b,.inl f.sq,h⟩|dct x=>cases e|td _=>cases e|tr _=>cases e|tab _ _=>cases e
 |non=>cases e|bl _=>cases e|clo _ _ _=>cases e|xc _=>cases e|fn _=>cases e|int _=>cases e|str _=>cases e
def zN (m:Ev):jT:=λb A=>(m b A).bind λw a=>match zI w a with|some c=>.ok c a|none=>.bad
def Wy (w:W)(A:Hx):Option jA:=match zI w A with|some a=>some ⟨λA i=>(zI w A).map λa=>a[i]?,a.length⟩|none=>none
def qI (m:Ev):Ei:=λb A=>(m b A).bind λw a=>match Wy w a with|some j=>.ok j a|none=>.bad
def eX (K:Frag)(t:TE):TI:=λb H r=>t b H λx h=>∃a,x=.ref a/\(((∃X,q9 K h a X)/\r (LZ K a) h)∨((∃X,qF K h a X)/\r (LQ K a) h))
def eY {l:Expr}{t:TE}(j:PE X l t):PI X tg l (eX X.K t):=by
 intro P s y H u I h;refine zU (j P s y H _ I h) λv S ⟨x,w,i,g,Q⟩=>?_;obtain⟨a,e,q⟩:=Q;subst e;cases g;have f:∀b∈[S.heap.objs.size],w6 X P w b:=λb n=>by
  have e:b=S.heap.objs.size:=by simpa using n
  subst e;exact i.fpOk (ao _) (i.hok.fresh (ao _))
 rcases q with ⟨⟨A,d⟩,q⟩|⟨⟨A,d⟩,q⟩
 ·obtain⟨c,r,p,z⟩:=i.list d
  refine wpAny_pyIter_list p.isList ?_;exact⟨S.heap.objs.size,[S.heap.objs.size],_,_,w,rfl,i.kept (t':=S.toks) λb o e=>ag _ e,ES a _,⟨_,aD _ rfl,rfl,rfl⟩,f,q⟩
 ·obtain⟨c,r,p,z⟩:=i.tuple d
  refine wpAny_pyIter_tuple (show S.heap.IsTuple a c.toArray from p) ?_
  exact⟨S.heap.objs.size,[S.heap.objs.size],_,_,w,rfl,i.kept (t':=S.toks) λb o e=>ag _ e,EJ a _,⟨_,aD _ rfl,rfl,rfl⟩,f,q⟩
def jQ (l:Int)(n:Nat):jA:=⟨λ_ i=>if i<n then some (some (.int (l+i))) else some none,n⟩
def Me {K:Frag}{l:Int}:Qb K φ H (jQ l n) (WL l n):=λi a h A L S=>by
 unfold jQ;dsimp only
 by_cases c:i<n
 ·rw[ai c]
  refine⟨λw e=>?_,λe=>by cases e⟩
  cases e;exact⟨c,λx d ⟨b,E⟩=>by subst b;exact⟨.refl,S,E⟩⟩
 ·rw[aj c]
  exact⟨λw e=>(by cases e),λ_=>Nat.le_of_not_lt c⟩
noncomputable def jv (i:Int):Bool:=decide (-(2 ^ 62)<=i)&&decide (i<2 ^ 62)
def QY {i:Int}(h:jv i=true):-(2 ^ 62)<=i/\i<2 ^ 62:=by unfold jv at h;rw[ak,aq,aq]at h;exact h
def j8 (m:Ev):Ei:=λa A=>(m a A).bind λw b=>match w with|.int j=>if jv j then .ok (jQ 0 j.toNat) b else .bad|_=>.bad
def Jc (m M:Ev):Ei:=λb A=>(m b A).bind λw d=>(M b d).bind λa c=>match w,a with|.int i,.int j=>if jv i&&jv j then .ok (jQ i (j-i).toNat) c else .bad|_,_=>.bad
end
abbrev Fn:=List W->Hx->R W
def kG (K:Frag)(x:Str)(C:Value):Prop:=nsIn K mainGlobals x=some (some C)
def XE (K:Frag)(E:XK)(x:Str)(H:Hp):Prop:=∀C d,kG K x C->E C d H
inductive Zq (K:Frag)(n:Nat)(f:Fn)(vs:List V)(H:Hp)(Q:VK)(E:XK):Prop
 |mk (len:vs.length=n) (φ:bU) (A:Hx) (ws:List W) (S:zL K φ A H) (r:zF K φ H ws vs) (q:(f ws A).post (PB K φ H Q) (EB K φ H (XE K E)))
def Zq.len {K:Frag}{f:Fn}{Q:VK}{E:XK}(h:Zq K n f vs H Q E):vs.length=n:=by cases h;assumption
inductive qR (P:Program)(w:World)(K:Frag)(mg:b0)(base:Heap)(k:Nat)(x:Str)(n:Nat)(f:Fn):Prop
 |mk (fa:Addr) (fd:FuncData) (ps:bX) (F:yt P w K mg base kO k fa fd ps (Zq K n f)) (at_:mg x=some (.ref fa)) (kp:keepIn K (.ref fa)=true) (bi:Binds K fd ps [])
def zP (f:Fn)(a:Ea):Ev:=λb A=>(a b A).bind λw c=>f w c
section
variable {m ma:Ev}
def ZI (m:Ea)(n:Nat):Prop:=∀a A w b,m a A=.ok w b->w.length=n
def zO:ZI zr 0:=λ_ _ _ _ h=>by unfold zr at h;cases h;rfl
def zA {M:Ea}(h:ZI M n):ZI (zi ma M) (n+1):=λa A w d e=>by
 unfold zi at e;cases h1:ma a A with
 |ok x b=>
  rw[h1,zK]at e;cases h2:M a b with|ok X c=>rw[h2,zK]at e;cases e;simp[h a b X _ h2]|exc x c=>rw[h2]at e;cases e|bad=>rw[h2]at e;cases e
 |exc x b=>rw[h1]at e;cases e|bad=>rw[h1]at e;cases e
end
def qz (n:Nat)(m:Ex):Fn:=λa A=>(m (a.map some++List.replicate (n-a.length) none) A).nox.bind λf b=>match f with|.rt w=>.ok w b|.nx _=>.ok .non b|_=>.bad
theorem RE.start {K:Frag}{b:List W}(h:zF K φ H b vs):RE K φ H (b.map some++List.replicate (N.length-b.length) none) (L2.start N vs):=by
 unfold L2.start;refine⟨by simp[h.length],λi w e=>?_⟩
 by_cases c:i<b.length
 ·rw[ah (by simpa using c),ay]at e
  cases hw:b[i]? with
  |none=>rw[hw]at e;cases e|some a=>
   rw[hw]at e;cases e;obtain⟨v,f,d⟩:=h.get hw;refine⟨v,?_,d⟩;rw[ah (by rw[af,<- h.length];exact c),ay,f];rfl
 ·rw[ar (by simpa using c),bg]at e
  split at e<;>cases e
section
variable {K:Frag}
theorem qR.mono {j k:Nat}{f:Fn}(F:qR P w K mg base j x n f)(h:j<=k):qR P w K mg base k x n f:=by cases F with|mk fa fd ps F a b c=>exact⟨fa,fd,ps,F.mono h,a,b,c⟩
theorem qR.imp {k:Nat}{f g:Fn}(F:qR P w K mg base k x n f)(h:∀ws A,ws.length=n->g ws A=.bad∨f ws A=g ws A):qR P w K mg base k x n g:=by
 obtain⟨fa,fd,ps,F,a,b,c⟩:=F;refine⟨fa,fd,ps,F.imp λv H Q E ⟨l,d,A,ws,S,r,q⟩=>⟨l,d,A,ws,S,r,?_⟩,a,b,c⟩;rcases h ws A (by rw[r.length];exact l) with e|e
 ·rw[e]at q;exact q.elim
 ·rw[e];exact q
end
section
variable {K:Frag}
def yf {a:α}{A:Hx}:qY (R.ok a A):=λ_ _ h=>by cases h
def jh:qY (R.bad:R α):=λ_ _ h=>by cases h
def Z0 {c:Prop} [Decidable c] {a b:R α}(H:qY a)(h:qY b):qY (if c then a else b):=by split<;>assumption
noncomputable def Zu (f:Int->Int->W):W->W->Hx->R W
 |.int i,.int j,A=>.ok (f i j) A|_,_,_=>.bad
def QC {f:Int->Int->W}:∀x y A,qY (Zu f x y A):=λx y A=>by
 unfold Zu;split
 ·exact yf
 ·exact jh
noncomputable def ZQ (c:Int->Int->Bool)(f:Int->Int->W):W->W->Hx->R W
 |.int i,.int j,A=>if c i j then .ok (f i j) A else .bad|_,_,_=>.bad
def Wq {c:Int->Int->Bool}{f:Int->Int->W}:∀x y A,qY (ZQ c f x y A):=λx y A=>by
 unfold ZQ;split
 ·exact Z0 yf jh
 ·exact jh
def Qt {f:Int->Int->W}{g:Int->Int->V}(h:∀i j φ H,RV K φ H (f i j) (g i j)):yF K (Zt g) (Zu f):=λφ A H x y u v Q S a q p=>by
 cases u with
 |int i=>cases v with|int j=>obtain rfl:=a;obtain rfl:=q;exact⟨i,j,rfl,rfl,p φ H _ .refl S (h i j φ H)⟩|_=>exact p.elim
 |_=>exact p.elim
def Wd {c:Int->Int->Bool}{C:Int->Int->Prop}{f:Int->Int->W}{g:Int->Int->V}(d:∀i j,c i j=true->C i j)(h:∀i j φ H,RV K φ H (f i j) (g i j)):yF K (rI C g) (ZQ c f):=λφ A H x y u v Q S b q p=>by
 cases u with
 |int i=>cases v with
  |int j=>
   obtain rfl:=b;obtain rfl:=q;unfold ZQ at p;dsimp only at p
   by_cases a:c i j=true
   ·rw[ai a]at p;exact⟨i,j,rfl,rfl,d i j a,p φ H _ .refl S (h i j φ H)⟩
   ·rw[aj a]at p;exact p.elim
  |_=>exact p.elim
 |_=>exact p.elim
def Kd (i j:Int):Bool:=(decide (-(2 ^ 64)<i)&&decide (i<2 ^ 64)) || ((decide (-(2 ^ 64)<j)&&decide (j<2 ^ 64)) || (decide (i.natAbs<2 ^ 256)&&decide (j.natAbs<2 ^ 256)))
def X7 (_ j:Int):Bool:=decide (0<j)
def Ay (i j:Int)(h:Kd i j=true):Wz i j:=by unfold Kd at h;simp only[a3,ak,decide_eq_true_eq]at h;exact h
def B7 (i j:Int)(h:X7 i j=true):(λ_ j=>0<j) i j:=by unfold X7 at h;simpa using h
def w5:=Zu λi j=>.int (i-j)
def Z6:=ZQ X7 λi j=>.int (i%j)
def eZ:=Zu λi j=>.int (Builtin.bitXor i j)
def Rc:=Zu λi j=>.bl (decide (i<j))
def Kf:=Zu λi j=>.bl (decide (i<=j))
def fb:=Zu λi j=>.bl (decide (j<i))
def LY:=Zu λi j=>.bl (decide (j<=i))
def X0 (i j:Int):Bool:=decide (0<=j)&&decide (j<=1000000)&&decide (i.natAbs<2 ^ 64)
def ND (i j:Int)(h:X0 i j=true):SN i j:=by unfold X0 at h;simp only[ak,decide_eq_true_eq]at h;exact⟨h.1.1,h.1.2,h.2⟩
def Lo:=ZQ X0 λi j=>.int (i ^ j.toNat)
variable {a b c:Expr}
def J7:W->Hx->R W
 |.int i,A=>.ok (.int (-i)) A|_,_=>.bad
structure gh (X:Cx)(op:CmpOp)(g:W->W->Hx->R W):Prop where
 ex:∃r:R2,qU X (compareOp op) r/\(∀x y A,qY (g x y A))/\yF X.K r g
 mks:∀b,op≠.In->op≠.NotIn->behindInMarks op b=false
def JK {r:R2}{g:W->W->Hx->R W}(a:qU X (compareOp op) r)(H:∀x y A,qY (g x y A))(h:yF X.K r g):gh X op g:=⟨⟨r,a,H,h⟩,λb c a2=>Cq b c a2⟩
def Lr:gh X .Lt Rc:=JK dP QC (Qt λ_ _ _ _=>rfl)
def SU:gh X .LtE Kf:=JK dQ QC (Qt λ_ _ _ _=>rfl)
def Lz:gh X .Gt fb:=JK dR QC (Qt λ_ _ _ _=>rfl)
def fc:gh X .GtE LY:=JK dS QC (Qt λ_ _ _ _=>rfl)
end
inductive Ty where
 |non|bl|int|str|tup|lst|dct
 deriving DecidableEq
def Ty.nm:Ty->String
 |.non => "NoneType" | .bl => "bool" | .int => "int" | .str => "str" | .tup => "tuple" | .lst => "list" | .dct => "dict"
def jM (w:W)(A:Hx):Option Ty:=match w with
 |.non=>some .non|.bl _=>some .bl|.int _=>some .int|.str _=>some .str|.tup _=>some .tup|.ref n=>match A[n]? with|some (.lst _)=>some .lst|some (.dct _)=>some .dct|_=>none
 |_=>none
def kK (a b:Ty):Bool:=a==b || (a==.bl&&b==.int)
def GU {K:Frag}(a b:Ty):kitOne K (.type a.nm) (.type b.nm)=some (kK a b):=by cases a<;>cases b<;>rfl
section
variable {xr:XR}{K:Frag}{a c:Expr}{es:bZ}{m:Ev}
def Ye (K:Frag)(H:Hp)(x:V)(t:Ty):Prop:=gR K H x (.type t.nm)∨∃a X,x=.ref a/\qF K H a X/\t=.tup
def OJ {A:Hx}{w:W}{t:Ty}(S:zL K φ A H)(q:RV K φ H w v)(e:jM w A=some t):Ye K H v t:=by
 cases w with
 |non=>cases e;obtain rfl:=q;exact .inl .non|bl k=>cases e;obtain rfl:=q;exact .inl (.bl k)|clo _ _ _=>cases e|xc _=>cases e|fn _=>cases e|int k=>cases e;obtain rfl:=q;exact .inl (.int k)|str k=>cases e;obtain rfl:=q;exact .inl (.str k)|tup c=>cases e;obtain⟨a,d,rfl,h,_⟩:=q;exact .inr ⟨a,d,rfl,h,rfl⟩|ref n=>
  obtain⟨a,rfl,g⟩:=q;unfold jM at e;dsimp only at e;cases E:A[n]? with
  |none=>rw[E]at e;cases e|some o=>
   rw[E]at e;obtain⟨b,f,r⟩:=S.ob n o E;rw[g]at f;cases f;cases o with|lst c=>cases e;obtain⟨d,z,_⟩:=r;exact .inl (.lst z)|dct c=>cases e;obtain⟨d,z,_⟩:=r;exact .inl (.dK z)|td _=>cases e|tr _=>cases e|tab _ _=>cases e|ro c=>cases e
def Ye.kit {s:Shared}{x:V}{t:Ty}(I:Inv X o6 σ H s)(r:RelV x u)(h:Ye X.K H x t):
  (∀{Q:bY}{E:bY}{A:Around}{c:Ty},(∀T,Q (.bool (kK t c)) { s with toks:=T })->wpAny (model X.prog X.w) A (call (.builtin "isinstance") [u,.type c.nm]) Q E s):=by
 intro Q E A c q;rcases h with h|⟨a,xs,rfl,h,rfl⟩
 ·exact PN I r h (GU t c) q
 ·cases (show u=Value.ref a from r)
  obtain⟨i,_,⟨o,d,b,_⟩,_⟩:=I.tuple h;exact bD kitx_tuple I.kIn ⟨o,d,b⟩ (GU .tup c) (λz=>nomatch z) q
def fe (K:Frag):List V->Hp->VK->Prop:=λX H Q=>∃x t c,X=[x,.ty (Ty.nm c)]/\Ye K H x t/\Q (.bl (kK t c)) H
def BV:yB X (.builtin "isinstance") (fe X.K):=by
 intro p s e H f g Q I r h;obtain⟨x,t,c,rfl,d,q⟩:=h;obtain⟨u,U,rfl,b,a⟩:=vals2 r;cases (show U=Value.type c.nm from a)
 exact d.kit I b λT=>⟨.bl (kK t c),H,I.tok T,rfl,q⟩
def gC (t:Ty)(m:Ev):Ev:=λb A=>(m b A).bind λw a=>match jM w a with|some T=>.ok (.bl (kK T t)) a|none=>.bad
def zD:W->W->Hx->R W:=λx y A=>match zI x A,y with
 |some a,.int i=>match gw a i with|some w=>.ok w A|none=>.bad
 |_,_=>.bad
def fg:∀x y A,qY (zD x y A):=λx y A=>by
 unfold zD;split
 ·split
  ·exact yf
  ·exact jh
 ·exact jh
def Cj {a:List W}{i:Int}{w:W}(r:zF K φ H a ys)(e:gw a i=some w):∃y,gw ys i=some y/\RV K φ H w y:=by
 unfold gw at e ⊢;rw[<- r.length];cases h:Zo a.length i with
 |none=>rw[h]at e;cases e|some j=>
  rw[h]at e;obtain⟨y,c,b⟩:=r.get (i:=j) e;exact⟨y,c,b⟩
def fh:yF K (L5 K) zD:=λd A H x y u v Q S c q p=>by
 unfold zD at p;cases es:zI u A with
 |none=>rw[es]at p;exact p.elim|some g=>
  rw[es]at p;cases v with
  |int i=>
   obtain rfl:=q;dsimp only at p;cases e:gw g i with
   |none=>rw[e]at p;exact p.elim|some w=>
    rw[e]at p;obtain⟨a,Y,rfl,z,r⟩:=Gp S c es;obtain⟨b,f,h⟩:=Cj r e;rcases z with z|z
    ·exact .inl ⟨a,Y,i,b,rfl,rfl,z,f,p d H _ .refl S h⟩
    ·exact .inr (.inl ⟨a,Y,i,b,rfl,rfl,z,f,p d H _ .refl S h⟩)
  |non=>exact p.elim|bl _=>exact p.elim|str _=>exact p.elim|tup _=>exact p.elim|ref _=>exact p.elim|clo _ _ _=>exact p.elim|xc _=>exact p.elim|fn _=>exact p.elim
def Jk (K:Frag)(r:List V->Hp->VK->Prop)(g:List W->Hx->R W):Prop:=∀b A H a y w Q,zL K b A H->(q9 K H a y∨qF K H a y)->zF K b H w y->(g w A).post (PB K b H Q) ZM->r [.ref a] H Q
def mQ (g:List W->Hx->R W)(q:jT):Ev:=λa A=>(q a A).bind λw b=>g w b
def mQ.read {g:List W->Hx->R W}{q:jT}(n:∀ws A,qY (g ws A))(c:Jk X.K r g):∀σ H Q,tM X.K xr (mQ g q) σ H Q->Vh r (XC (tQ X.K xr q) SO) σ H Q:=by
 rintro σ H Q ⟨e,A,f,S,i,h⟩
 refine⟨e,A,f,S,i,qD (zY.mp h) (λws p j b o a y l d z r=>?_) λ_ _ z=>z⟩;exact c b p o a y ws Q d z r (qD (YD (n _ _) j) (λ_ _ z=>z.mono l) λ_ _ z=>z)
def Wj {id:String}{g:List W->Hx->R W}{q:jT}(d:yB X (.builtin id) r)(n:∀ws A,qY (g ws A))(a:Jk X.K r g)(j:X.mg x=none)(v:bootBuiltins x=some (.builtin id))(f:SQ X xr e q)(c:Gl X x:=by rfl)
  (H:x ≠ "__name__":=by decide)(b:yG x:=by decide)(i:ji e [] X:=by rfl)(h:wR o7 [] X:=by rfl):
  SE X xr (.Call (.Name x p) [e] [] o7) (mQ g q):=PE.imp (Q0 d c j v (jt f yn i) H b i h) (mQ.read n a)
def fj {id:String}{g:List W->Hx->R W}{q:jT}(d:yB X (.type id) r)(n:∀ws A,qY (g ws A))(a:Jk X.K r g)(j:X.mg x=none)(v:bootBuiltins x=some (.type id))(f:SQ X xr e q)(c:Gl X x:=by rfl)
  (H:x ≠ "__name__":=by decide)(b:yG x:=by decide)(i:ji e [] X:=by rfl)(h:wR o7 [] X:=by rfl):
  SE X xr (.Call (.Name x p) [e] [] o7) (mQ g q):=PE.imp (KH d c j v (jt f yn i) H b i h) (mQ.read n a)
def qf:List W->Hx->R W:=λw A=>.ok (.int w.length) A
def BZ:Jk K (λx H Q=>∃p y,x=[.ref p]/\(q9 K H p y∨qF K H p y)/\Q (.int y.length) H) qf:=λb A H a y w Q S z r p=>
 ⟨a,y,rfl,z,by rw[<- r.length];exact p b H _ .refl S rfl⟩
def jS:List W->Hx->R W:=λw A=>.ok (.tup w) A
def AD:Jk K (λx H Q=>∃p y,x=[.ref p]/\((q9 K H p y/\∀l,H l=none->Q (.ref l) (upd H l (.tup y)))∨(qF K H p y/\Q (.ref p) H))) jS:=λc A H a y w Q S z r p=>by
 refine⟨a,y,rfl,?_⟩;rcases z with z|z
 ·refine .inl ⟨z,λl h=>?_⟩
  obtain⟨d,a2,b⟩:=JP S h r;exact p _ _ _ d a2 b
 ·exact .inr ⟨z,p c H _ .refl S ⟨a,y,rfl,z,r⟩⟩
variable {b:Expr}
def GO {s:Shared}{a:Addr}(I:Inv X o6 σ H s)(l:X.calm=true)(z:q9 X.K H a ys∨qF X.K H a ys)
  (h:∀(c:bS)(j:Addr)(C B:bU)(S:Nat->Heap->Prop)(y:Shared),Vals ys c->ys.length<=sizeLine->Walks X.prog X.w X.A.in1 j C B c.length (λi v=>c[i]? =some v) S->S 0 y.heap->(∀b∈C,b<y.heap.objs.size)->
   (∀(x:Heap)(T:Nat),(∀b o,b∉B->y.heap.get? b=some o->x.get? b=some o)->Inv X o6 σ H { y with heap:=x,toks:=T })->Q (.ref j) y):
  wpAny (model X.prog X.w) X.A.in1 (pyIter (.ref a)) Q E s:=by
 have g:X.A.in1.handled=none:=I.ok.hd l;have keep:∀(o:Obj)(x:Heap)(T:Nat),(∀b u,b∉[s.heap.objs.size]->(s.heap.push o).get? b=some u->x.get? b=some u)->Inv X o6 σ H { s with heap:=x,toks:=T }:=λo x T k=>I.kept λb u e=>k b u (by
  intro D;have q:b=s.heap.objs.size:=by simpa using D
  exact absurd (q ▸ aM e) (aT _)) (ag _ e)
 rcases z with z|z
 ·obtain⟨c,r,p,f⟩:=I.list z
  have t:a<s.heap.objs.size:=by obtain⟨o,n,e,_⟩:=p;exact aM e
  refine wpAny_pyIter_list p.isList ?_;have W:=Walks.list (prog:=X.prog) (w:=X.w) g s.heap.objs.size a (aO t) c.toArray;rw[aI]at W;simp only[List.getElem?_toArray]at W;refine h c s.heap.objs.size _ _ _ _ r f W ⟨⟨_,aD _ rfl,rfl,rfl⟩,p.isList.at λo e=>ag _ e⟩ (λb d=>?_) λx T k=>keep _ x T k;show b<(s.heap.push _).objs.size;rw[bp];rcases cw.mp d with e|d
  ·rw[e];exact bA _
  ·have e:b=a:=by simpa using d
   rw[e];exact bj t
 ·obtain⟨c,r,p,f⟩:=I.tuple z
  have t:a<s.heap.objs.size:=p.lt;have P:s.heap.IsTuple a c.toArray:=p;refine wpAny_pyIter_tuple P ?_;have W:=Walks.tuple (prog:=X.prog) (w:=X.w) g s.heap.objs.size a (aO t) c.toArray;rw[aI]at W;simp only[List.getElem?_toArray]at W;refine h c s.heap.objs.size _ _ _ _ r f W ⟨⟨_,aD _ rfl,rfl,rfl⟩,P.at λo e=>ag _ e⟩ (λb d=>?_) λx T k=>keep _ x T k;show b<(s.heap.push _).objs.size;rw[bp];rcases cw.mp d with e|d
  ·rw[e];exact bA _
  ·have e:b=a:=by simpa using d
   rw[e];exact bj t
def WC:V->Option Bool
 |.bl b=>some b|.int i=>some (i != 0)|.non=>some false|_=>none
def Y7:W->Option Bool
 |.bl b=>some b|.int i=>some (i != 0)|.non=>some false|_=>none
def C0 {w:W}{k:Bool}(q:RV K φ H w v)(e:Y7 w=some k):WC v=some k:=by
 cases w<;>first
  |(cases e;done)
  |(obtain rfl:=q;exact e)
def E9 {A:Around}{k:Bool}{s:Shared}{Q:Bool->Shared->Prop}(r:RelV v u)(e:WC v=some k)(h:Q k s):wpAny (model X.prog X.w) A (truthy u) Q E s:=by
 cases v with
 |bl b=>cases e;cases r;exact wpAny_truthy_bool h|int i=>
  cases e;obtain⟨t,rfl⟩:=r;exact PySem.P.truthy_int h
 |non=>cases e;cases r;exactλ_ _ _=>h|_=>cases e
noncomputable def gJ:List W->Option (List Bool)
 |[]=>some []|w::ws=>match Y7 w,gJ ws with|some k,some K=>some (k::K)|_,_=>none
theorem Pl:∀{f:List W}{Y:List V}{g:List Bool},zF K φ H f Y->gJ f=some g->∀(i:Nat)(y:V),Y[i]? =some y->∃k,g[i]? =some k/\WC y=some k
 |[],_,_,r,e,i,y,h=>by cases r;simp at h|w::f,_,g,⟨v,r,d,q,t⟩,e,i,y,h=>by
  subst d;unfold gJ at e;cases E:Y7 w with
  |none=>rw[E]at e;cases e|some k=>
   cases a:gJ f with
   |none=>rw[E,a]at e;cases e|some b=>
    rw[E,a]at e;cases e;cases i with|zero=>simp at h;subst h;exact⟨k,by simp,C0 q E⟩|succ i=>simp at h;obtain⟨c,l,j⟩:=Pl t a i y h;exact⟨c,by simpa using l,j⟩
theorem PC:∀{b:List W}{c:List Bool},gJ b=some c->c.length=b.length
 |[],_,e=>by cases e;rfl|w::b,c,e=>by
  unfold gJ at e;cases a:Y7 w with
  |none=>rw[a]at e;cases e|some k=>
   cases E:gJ b with|none=>rw[a,E]at e;cases e|some K=>rw[a,E]at e;cases e;simp[PC E]
def range_all (K:List Bool):(List.range K.length).all (λi=>K.getD i false)=K.all id:=by
 rw[Bool.eq_iff_iff,aY,aY]
 constructor
 ·intro h x b
  obtain⟨i,a,rfl⟩:=a7 b
  have:=h i (cm.mpr a)
  rw[aa,ae a]at this;exact this
 ·intro h i a
  have H:=cm.mp a;rw[aa,ae H];exact h _ (aK H)
def range_any (K:List Bool):(List.range K.length).any (λi=>K.getD i false)=K.any id:=by
 rw[Bool.eq_iff_iff,any_eq_true,any_eq_true]
 constructor
 ·rintro⟨i,a,h⟩
  have H:=cm.mp a;rw[aa,ae H]at h;exact⟨_,aK H,h⟩
 ·rintro⟨x,b,h⟩
  obtain⟨i,a,rfl⟩:=a7 b;refine⟨i,cm.mpr a,?_⟩;rw[aa,ae a];exact h
def SV (K:Frag)(f:List Bool->Bool):List V->Hp->VK->Prop:=λx H Q=>∃a Y b,x=[.ref a]/\(q9 K H a Y∨qF K H a Y)/\b.length=Y.length/\(∀(i:Nat)(y:V),Y[i]? =some y->∃k,b[i]? =some k/\WC y=some k)/\Q (.bl (f b)) H
def Oz {K:List Bool}{A:Around}(r:Vals ys oE)(l:K.length=ys.length)(t:∀(i:Nat)(y:V),ys[i]? =some y->∃k,K[i]? =some k/\WC y=some k):TruthOf X.prog X.w A (λi v=>oE[i]? =some v) λi=>K.getD i false:=by
 intro i v s Q E P H;have a:i<oE.length:=(cu.mp P).1;have h:i<ys.length:=by rw[r.length];exact a
 obtain⟨u,d,e⟩:=r.get (i:=i) (x:=ys[i]) (by simp[h])
 rw[P]at d;cases d;obtain⟨k,c,b⟩:=t i ys[i] (by simp[h])
 dsimp only at H;rw[aa,c]at H;exact E9 e b H
def Br (d:X.calm=true):yB X (.builtin "all") (SV X.K λks=>ks.all id):=by
 intro P s A H C U Q I r h;obtain⟨a,y,ks,rfl,z,l,n,q⟩:=h;obtain⟨u,rfl,c⟩:=vals1 r;cases c;refine call_all_walk (GO I d z λb f x w S D v g W j p B=>?_);refine⟨f,x,w,_,_,S,λi=>ks.getD i false,rfl,W,j,Oz v l n,λo t k=>?_⟩;have e:b.length=ks.length:=by rw[l,v.length]
 rw[e,range_all];exact⟨.bl _,H,B o t k,rfl,q⟩
def Bl (d:X.calm=true):yB X (.builtin "any") (SV X.K λks=>ks.any id):=by
 intro P s A H C U Q I r h;obtain⟨a,y,ks,rfl,z,l,n,q⟩:=h;obtain⟨u,rfl,c⟩:=vals1 r;cases c;refine call_any_walk (GO I d z λb f x w S D v g W j p B=>?_);refine⟨f,x,w,_,_,S,λi=>ks.getD i false,rfl,W,j,Oz v l n,λo t k=>?_⟩;have e:b.length=ks.length:=by rw[l,v.length]
 rw[e,range_any];exact⟨.bl _,H,B o t k,rfl,q⟩
def Zg (f:List Bool->Bool):List W->Hx->R W:=λw A=>match gJ w with|some K=>.ok (.bl (f K)) A|none=>.bad
def Mc {f:List Bool->Bool}:∀ws A,qY (Zg f ws A):=λws A=>by
 unfold Zg;split
 ·exact yf
 ·exact jh
def O8 {f:List Bool->Bool}:Jk K (SV K f) (Zg f):=λb A H a y w Q S z r p=>by
 unfold Zg at p;cases e:gJ w with
 |none=>rw[e]at p;exact p.elim|some c=>
  rw[e]at p;exact⟨a,y,c,rfl,z,by rw[PC e,r.length],Pl r e,p b H _ .refl S rfl⟩
abbrev Y9:=Zg λK=>K.all id
abbrev WE:=Zg λK=>K.any id
def Dy:qU X (compareOp .IsNot) (λx y H Q=>∃i j,x=.bl i/\y=.bl j/\Q (.bl (!(i==j))) H):=by intro p s b H x y v u Q I a r h;obtain⟨i,j,rfl,rfl,q⟩:=h;cases a;cases r;exact isnot_bool ⟨.bl _,H,I,rfl,q⟩
noncomputable def Si:W->Bool
 |.non=>true|_=>false
def Eo {w:W}(q:RV K φ H w v):decide (v=.non)=Si w:=by
 cases w with|non=>obtain rfl:=q;rfl|bl b=>obtain rfl:=q;rfl|clo _ _ _=>obtain⟨a,_,_,_,_,_,_,rfl,_⟩:=q;rfl|xc _=>obtain⟨a,_,_,_,rfl,_⟩:=q;rfl|fn _=>obtain⟨a,rfl,_⟩:=q;rfl|int b=>obtain rfl:=q;rfl|str b=>obtain rfl:=q;rfl|tup c=>obtain⟨a,d,rfl,_⟩:=q;rfl|ref n=>obtain⟨a,rfl,_⟩:=q;rfl
def Vf (n:Bool):W->W->Hx->R W:=λx y A=>match x,y with|.bl i,.bl j=>.ok (.bl (if n then !(i==j) else i==j)) A|w,.non=>.ok (.bl (if n then !Si w else Si w)) A|_,_=>.bad
def fk {n:Bool}:∀x y A,qY (Vf n x y A):=λx y A=>by
 unfold Vf;split
 ·exact yf
 ·exact yf
 ·exact jh
def E4:yF K (λx y H Q=>(y=.non/\Q (.bl (!decide (x=.non))) H)∨∃i j,x=.bl i/\y=.bl j/\Q (.bl (!(i==j))) H) (Vf true):=λc A H x y u v Q S b a p=>by
 cases v with
 |non=>
  have q:y=.non:=a;refine .inl ⟨q,?_⟩;rw[Eo b];cases u<;>exact p c H _ .refl S rfl
 |bl j=>
  cases u with|bl i=>obtain rfl:=b;obtain rfl:=a;exact .inr ⟨i,j,rfl,rfl,p c H _ .refl S rfl⟩|_=>exact p.elim
 |_=>cases u<;>exact p.elim
def BR:gh X .IsNot (Vf true):=JK (BY.or Dy) fk E4
end
def Lp (o S:Scope):Bool:=S.kind==.function&&decide ((S.names.map (·.1)).Nodup)&&S.names.all λy=>y.2 != .free || (o.names.lookup y.1==some .cell || o.names.lookup y.1==some .free)
def cps (h:Lp X.env.scope sc=true:=by kernel_rfl):gH X sc:=by
 unfold Lp at h;rw[ak,ak,aq,aL,aY]at h;refine⟨h.1.1,h.1.2,λy H e=>?_⟩
 have:=h.2 y H
 rw[e]at this;simp only[bne_self_eq_false,Bool.false_or,a3,aL]at this;exact this
section
variable {xr:XR}{K:Frag}{a b:Expr}{es:bZ}{ma mb:Ev}
theorem zL.lst {b:bU}{A:Hx}{H:Hp}{n:Nat}{w:List W}{v:V}(S:zL K b A H)(q:RV K b H (.ref n) v)(e:A[n]? =some (.lst w)):∃p vs,v=.ref p/\b[n]? =some p/\H p=some (.lst vs)/\zF K b H w vs:=by obtain⟨p,rfl,d⟩:=q;obtain⟨P,c,vs,a,h⟩:=S.ob n _ e;rw[d]at c;cases c;exact⟨p,vs,rfl,d,a,h⟩
def Cf {p:Program}{A:Around}{s:Shared}{t b:Addr}{f:bS}(i:IsTup s.heap t ([]:bS).toArray)(a:IsTup s.heap b f.toArray)(j:Q (.ref b) s):
  wpAny (model p w) A (binaryOp .Add (.ref t) (.ref b)) Q E s:=by
 obtain⟨⟨r,q,data,l⟩,o,c,n,g⟩:=id i;obtain⟨⟨C,d,D,S⟩,h,H,N,e⟩:=id a;simp only at c g H e;subst c g H e;exact concat_meets ⟨_,o,rfl⟩ ⟨_,h,rfl⟩ noFill_tuple_add seq_tuple_add slot_tuple_add entry_tuple_add (args_tuple_add_2 _ _)
   (tuple_addW0 t b ([]:bS).toArray f.toArray n N q d l S (by simp)) ⟨o,h,j⟩
def N7 (K:Frag):R2:=λx y H Q=>∃a b Y,x=.ref a/\y=.ref b/\qF K H a []/\qF K H b Y/\Q (.ref b) H
def CM:qU X (binaryOp .Add) (N7 X.K):=by intro l s n H x y v u Q I c r h;obtain⟨a,b,Y,rfl,rfl,g,f,q⟩:=h;cases c;cases r;obtain⟨e,d,P,_⟩:=I.tuple g;obtain⟨i,j,p,_⟩:=I.tuple f;cases d;exact Cf P p ⟨.ref b,H,I,rfl,q⟩
def ql:W->W->Hx->R W:=λx y A=>match x,y with
 |.int i,.int j=>.ok (.int (i+j)) A|.tup X,.tup Y=>if X.length+Y.length<=zX then .ok (.tup (X++Y)) A else .bad|.ref n,.ref k=>match A[n]?,A[k]? with|some (.lst X),some (.lst Y)=>if X.length+Y.length<=zX then .ok (.ref A.length) (A++[.lst (X++Y)]) else .bad|_,_=>.bad
 |_,_=>.bad
def ft:∀x y A,qY (ql x y A):=λx y A=>by
 unfold ql
 split
 ·exact yf
 ·exact Z0 yf jh
 ·split
  ·exact Z0 yf jh
  ·exact jh
 ·exact jh
def Yx (h:n<=zX):n<=sizeLine:=by
 have:sizeLine=16777216:=sizeLine_eq
 unfold zX at h;lia
def Ae:yF K (λx y H Q=>Zt (λi j=>.int (i+j)) x y H Q∨ML K x y H Q∨N7 K x y H Q∨Ln x y H Q) ql:=λL A H x y u v Q S f q p=>by
 cases u with
 |int i=>cases v with|int j=>obtain rfl:=f;obtain rfl:=q;exact .inl ⟨i,j,rfl,rfl,p L H _ .refl S rfl⟩|_=>exact p.elim
 |tup X=>cases v with
  |tup Y=>
   obtain⟨M,b,rfl,T,c⟩:=f;obtain⟨a2,a,rfl,t,r⟩:=q;unfold ql at p;dsimp only at p
   by_cases h:X.length+Y.length<=zX
   ·rw[ai h]at p
    by_cases C:b=[]
    ·subst C
     have o:X=[]:=by
      have:=c.length
      simpa using this
     subst o;exact .inr (.inr (.inl ⟨M,a2,a,rfl,rfl,T,t,p L H _ .refl S ⟨a2,a,rfl,t,r⟩⟩))
    ·refine .inr (.inl ⟨M,a2,b,a,rfl,rfl,T,t,C,by rw[<- c.length,<- r.length];exact Yx h,λe=>?_,λne l g=>?_⟩)
     ·subst e
      have o:Y=[]:=by
       have:=r.length
       simpa using this
      subst o;rw[aX]at p;exact p L H _ .refl S ⟨M,b,rfl,T,c⟩
     ·obtain⟨z,w,B⟩:=JP S g (c.append r)
      exact p _ _ _ z w B
   ·rw[aj h]at p;exact p.elim
  |_=>exact p.elim
 |ref n=>cases v with
  |ref k=>
   unfold ql at p;dsimp only at p;cases E:A[n]? with
   |none=>rw[E]at p;exact p.elim|some J=>cases J with
    |lst X=>
     cases d:A[k]? with
     |none=>rw[E,d]at p;exact p.elim|some I=>cases I with
      |lst Y=>
       rw[E,d]at p;dsimp only at p;obtain⟨D,U,rfl,f1,g1,c⟩:=S.lst f E;obtain⟨P,N,rfl,f2,Z,r⟩:=S.lst q d
       by_cases h:X.length+Y.length<=zX
       ·rw[ai h]at p
        refine .inr (.inr (.inr ⟨D,P,U,N,rfl,rfl,g1,Z,by rw[<- c.length,<- r.length];exact Yx h,λl g=>?_⟩))
        obtain⟨z,w,B⟩:=Q8 S g (c.append r);exact p _ _ _ z w B
       ·rw[aj h]at p;exact p.elim
      |_=>rw[E,d]at p;exact p.elim
    |_=>rw[E]at p;exact p.elim
  |_=>exact p.elim
 |_=>cases v<;>exact p.elim
def qt:W->W->Hx->R W:=λx y A=>match x,y with
 |.int i,.int j=>if Kd i j then .ok (.int (i * j)) A else .bad|.ref n,.int k=>match A[n]? with|some (.lst xs)=>if jv k&&decide (xs.length * k.toNat<=zX) then .ok (.ref A.length) (A++[.lst (List.replicate k.toNat xs).flatten]) else .bad|_=>.bad
 |_,_=>.bad
def fv:∀x y A,qY (qt x y A):=λx y A=>by
 unfold qt
 split
 ·exact Z0 yf jh
 ·split
  ·exact Z0 yf jh
  ·exact jh
 ·exact jh
theorem zF.rep {w:List W}(r:zF K φ H w vs):∀n:Nat,zF K φ H (List.replicate n w).flatten (List.replicate n vs).flatten
 |0=>.nil|n+1=>by rw[ba,ba,a8,a8];exact r.append (zF.rep r n)
def A9:yF K (λx y H Q=>rI Wz (λi j=>.int (i * j)) x y H Q∨LA x y H Q) qt:=λf A H x y u v Q S a q p=>by
 cases v with
 |int j=>cases u with
  |int i=>
   obtain rfl:=a;obtain rfl:=q;unfold qt at p;dsimp only at p
   by_cases c:Kd i j=true
   ·rw[ai c]at p;exact .inl ⟨i,j,rfl,rfl,Ay i j c,p f H _ .refl S rfl⟩
   ·rw[aj c]at p;exact p.elim
  |ref n=>
   obtain rfl:=q;unfold qt at p;dsimp only at p;cases e:A[n]? with
   |none=>rw[e]at p;exact p.elim|some o=>cases o with
    |lst X=>
     rw[e]at p;dsimp only at p;obtain⟨P,g,rfl,w,t,r⟩:=S.lst a e
     by_cases h:(jv j&&decide (X.length * j.toNat<=zX))=true
     ·rw[ai h]at p
      rw[ak,aq]at h;obtain⟨d,B⟩:=QY h.1;refine .inr ⟨P,j,g,rfl,rfl,t,by lia,by lia,by rw[<- r.length];exact Yx h.2,λl b=>?_⟩
      obtain⟨c1,c2,C⟩:=Q8 S b (r.rep j.toNat);exact p _ _ _ c1 c2 C
     ·rw[aj h]at p;exact p.elim
    |_=>rw[e]at p;exact p.elim
  |_=>exact p.elim
 |_=>cases u<;>exact p.elim
def Nx {M:Ea}(h:SA X xr es M)(H:ZI M n)(b:n<=zX:=by decide):SE X xr (.List es o7) (qA M):=
 eV h λa A w c e=>by rw[H a A w c e];exact Yx b
def yk:W->W->Hx->R W:=λx y A=>match x with
 |.ref n=>match A[n]? with|some (.lst ws)=>if ws.length<zX then .ok .non (A.set n (.lst (ws++[y]))) else .bad|_=>.bad
 |_=>.bad
def Jm (x:W)(A:Hx):Bool:=match x with
 |.ref n=>match A[n]? with|some (.lst _)=>true|_=>false
 |_=>false
def CK {A:Hx}{w:W}(S:zL K φ A H)(q:RV K φ H w v)(e:Jm w A=true):Vg K "list" v H:=by
 unfold Jm at e;cases w with
 |ref n=>
  dsimp only at e;cases E:A[n]? with
  |none=>rw[E]at e;cases e|some o=>cases o with|lst a=>obtain⟨p,b,rfl,_,h,_⟩:=S.lst q E;exact .inl ⟨rfl,_,q9.of h⟩|_=>rw[E]at e;cases e
 |_=>cases e
def j4 (g:W->W->Hx->R W)(a b:Ev):Ev:=λc A=>(a c A).bind λx d=>if Jm x d then(b c d).bind λy e=>g x y e else .bad
def XJ {nm:Str}{id:String}{r:V->List V->Hp->VK->Prop}{g:W->W->Hx->R W}(J:Slot "list" nm id)(i:typeOf (.builtin id)=pure (.type "method_descriptor"))(U:Ki X id r)(T:∀x y A,qY (g x y A))
  (D:∀φ A H x y u v Q,zL X.K φ A H->RV X.K φ H u x->RV X.K φ H v y->(g u v A).post (PB X.K φ H Q) ZM->r x [y] H Q)(C:SE X xr a ma)(Y:SE X xr b mb)
  (n:ji b [] X)(c:attributeBase a nm X.env (eval a X.env)=eval a X.env)
  (d:((backTo oD (starEach [b] X.env)).all (λx=>!x.1)&&(backToKw oD (keywordEach [] X.env)).all (λx=>x.1.isSome)
   && decide ([b].length+([]:cb).length+(if ([]:cb).isEmpty then 0 else 1)<30))=true)(e:(oH.endLine==oD.line)=true):
  SE X xr (.Call (.Attribute a nm oH) [b] [] oD) (j4 g ma mb):=
 PE.imp (Mq PySem.F.plainAttrs_list J i U C (jt Y yn n) c d e n (by rfl)) λσ H Q ⟨φ,A,ρ,S,N,h⟩=>by
  refine tM.go S N (zY.mp h) λw A1 p H1 v M l o q=>?_
  by_cases j:Jm w A1=true
  ·rw[ai j]at M
   refine⟨CK o q j,?_⟩;refine tM.go o (N.mono l) (qD (zY.mp M) (λ_ _ z=>z) λ_ _ z=>z.mono l) λt A2 f I P Z L E B=>?_;exact D f A2 I v P w t Q E (q.mono L) B (qD (YD (T _ _ _) Z) (λ_ _ z=>z.mono (l.trans L)) λ_ _ z=>z)
  ·rw[aj j]at M;exact M.elim
def Di:∀x y A,qY (yk x y A):=λx y A=>by
 unfold yk
 split
 ·split
  ·exact Z0 yf jh
  ·exact jh
 ·exact jh
def Z1:W->W->Hx->R W:=λx y A=>match x,y with
 |.ref n,.int i=>match A[n]? with
  |some (.lst ws)=>match (if jv i then seqIndex? i ws.length else none) with
   |some k=>match ws[k]? with|some w=>.ok w (A.set n (.lst (ws.eraseIdx k)))|none=>.bad
   |none=>.bad
  |_=>.bad
 |_,_=>.bad
def BK:∀x y A,qY (Z1 x y A):=λx y A=>by
 unfold Z1
 split
 ·split
  ·split
   ·split
    ·exact yf
    ·exact jh
   ·exact jh
  ·exact jh
 ·exact jh
def gQ:W->W->W->Hx->R Unit:=λo i v A=>match o,i with
 |.ref n,.int k=>match A[n]? with
  |some (.lst ws)=>match Zo ws.length k with|some j=>.ok () (A.set n (.lst (ws.set j v)))|none=>.bad
  |_=>.bad
 |_,_=>.bad
def Mo:∀o i v A,qY (gQ o i v A):=λo i v A=>by
 unfold gQ
 split
 ·split
  ·split
   ·exact yf
   ·exact jh
  ·exact jh
 ·exact jh
def O4:Mp K MB gQ:=λu A H o i v a w wv Q S f d q p=>by
 unfold gQ at p;cases a with
 |ref n=>cases w with
  |int k=>
   obtain rfl:=d;dsimp only at p;cases e:A[n]? with
   |none=>rw[e]at p;exact p.elim|some g=>cases g with
    |lst h=>
     rw[e]at p;dsimp only at p;cases E:Zo h.length k with
     |none=>rw[E]at p;exact p.elim|some j=>
      rw[E]at p;obtain⟨l,x,rfl,y,t,r⟩:=S.lst f e;have L:Le K u H u (upd H l (.lst (x.set j v))):=Le.upd y (λX z=>by rw[t]at z;cases z) (λ_ _ z=>by rw[t]at z;cases z)
      obtain⟨c,b⟩:=S.write (o:=.lst h) (o':=.lst (h.set j wv)) e rfl rfl y ⟨_,jY,(r.mono L).set (q.mono L) j⟩;exact⟨l,x,k,j,rfl,rfl,t,by rw[<- r.length];exact E,p _ _ c b⟩
    |_=>rw[e]at p;exact p.elim
  |_=>exact p.elim
 |_=>cases w<;>exact p.elim
variable {m:Ev}
def fw {id:String}{g:W->Hx->R W}(i:yB X (.type id) r)(q:∀w A,qY (g w A))(f:Rx X.K (λv=>r [v]) g)(t:X.mg x=none)(d:bootBuiltins x=some (.type id))(j:SE X xr e m)(b:Gl X x:=by rfl)
  (a:x ≠ "__name__":=by decide)(c:yG x:=by decide)(n:ji e [] X:=by rfl)(l:wR o7 [] X:=by rfl):
  SE X xr (.Call (.Name x p) [e] [] o7) (gE g m):=PE.imp (KH i b t d (jt j yn n) a c n l) λo H Q h=>gE.read (r:=λv=>r [v]) q f o H Q h
def MN {id:String}{g:W->W->Hx->R W}(o:yB X (.builtin id) r)(z:∀w i A,qY (g w i A))(n:yF X.K (λv c=>r [v,c]) g)(B:X.mg x=none)(j:bootBuiltins x=some (.builtin id))(t:SE X xr a ma)(q:SE X xr b mb)(e:Gl X x)
  (d:x ≠ "__name__")(f:yG x)(u:ji a [b] X)(C:ji b [] X)(l:wR o7 [b] X):
  SE X xr (.Call (.Name x p) [a,b] [] o7) (zh g ma mb):=PE.imp (Q0 o e B j (jt t (jt q yn C) u) d f u l) λy H Q h=>zh.read (r:=λv c=>r [v,c]) z n y H Q h
def M9:W->Hx->R W
 |.int i,A=>.ok (.int i) A|.bl k,A=>.ok (.int (if k then 1 else 0)) A|_,_=>.bad
def Sd:=Zu λi j=>.int (if j > i then j else i)
def Sl:=Zu λi j=>.int (if j<i then j else i)
noncomputable def yA:W->Bool
 |.tup _=>false|.ref _=>false|.clo _ _ _=>false|.xc _=>false|.fn _=>false|_=>true
noncomputable def J0:W->W->Bool
 |.non,.non=>true|.bl a,.bl b=>a==b|.bl a,.int b=>(if a then 1 else 0)==b|.int a,.bl b=>a==(if b then 1 else 0)|.int a,.int b=>a==b|.str a,.str b=>a==b|_,_=>false
def Ko (x:W)(X:List W):Bool:=X.any λy=>J0 y x
def KG {w:W}(q:RV K φ H w v)(e:yA w=true):wN v=true:=by
 cases w<;>first
  |(cases e;done)
  |(obtain rfl:=q;rfl)
def P7 {w a:W}{b:V}(q:RV K φ H w v)(Q:RV K φ H a b)(e:yA w=true)(E:yA a=true):g7 v b=J0 w a:=by
 cases w<;>cases a<;>first
  |(cases e;done)
  |(cases E;done)
  |(obtain rfl:=q;obtain rfl:=Q;rfl)
theorem ON {x:W}(q:RV K φ H x v)(e:yA x=true):∀{X:List W}{a:List V},zF K φ H X a->X.all yA=true->a.all wN=true/\Vv v a=Ko x X
 |[],_,r,_=>by cases r;exact⟨rfl,rfl⟩|w::ws,_,⟨y,r,E,h,t⟩,h2=>by
  subst E;rw[all_cons,ak]at h2;obtain⟨I,i⟩:=ON q e t h2.2;refine⟨by rw[all_cons,KG h h2.1,I];rfl,?_⟩
  unfold Vv Ko at i ⊢;rw[any_cons,any_cons,i,P7 h q h2.1 e]
def J3 (n:Bool):W->W->Hx->R W:=λx y A=>match zI y A with|some w=>if yA x&&w.all yA then .ok (.bl (if n then !Ko x w else Ko x w)) A else .bad|none=>.bad
abbrev L9:=J3 false
def fx {n:Bool}:∀x y A,qY (J3 n x y A):=λx y A=>by
 unfold J3
 split
 ·exact Z0 yf jh
 ·exact jh
def fy {n:Bool}:yF K (LJ K n) (J3 n):=λc A H x y u v Q S q b p=>by
 unfold J3 at p;cases es:zI v A with
 |none=>rw[es]at p;exact p.elim|some w=>
  rw[es]at p;dsimp only at p
  by_cases h:(yA u&&w.all yA)=true
  ·rw[ai h]at p
   rw[ak]at h;obtain⟨a,Y,rfl,z,r⟩:=Gp S b es;obtain⟨I,i⟩:=ON q h.1 r h.2;exact⟨a,Y,rfl,z,KG q h.1,I,by rw[i];exact p c H _ .refl S rfl⟩
  ·rw[aj h]at p;exact p.elim
structure LD (X:Cx)(op:CmpOp)(g:W->W->Hx->R W):Prop where
 ex:∃r:R2,qU X (compareOp op) r/\(∀x y A,qY (g x y A))/\yF X.K r g
def fA:LD X .In L9:=⟨_,EW,fx,fy⟩
end
def yJ (f:W->Option PyData):List W->Option (List PyData)
 |[]=>some []|w::ws=>match f w,yJ f ws with|some d,some D=>some (d::D)|_,_=>none
noncomputable def qE (A:Hx):Nat->W->Option PyData
 |_,.non=>some .none|_,.bl b=>some (.bool b)|_,.int i=>some (.int i)|_,.str x=>if PyData.strOk x then some (.str x) else none|_,.clo _ _ _=>none|_,.xc _=>none|_,.fn _=>none|0,.tup _=>none|0,.ref _=>none|n+1,.tup ws=>(yJ (qE A n) ws).map .tuple|n+1,.ref k=>match zI (.ref k) A with|some ws=>(yJ (qE A n) ws).map .list|none=>none
def BD {K:Frag}{A:Hx}{u:List W}(S:zL K φ A H)(q:RV K φ H (.ref n) v)(e:zI (.ref n) A=some u):∃a y,v=.ref a/\q9 K H a y/\zF K φ H u y:=by
 obtain⟨a,rfl,c⟩:=q;unfold zI at e;dsimp only at e;cases E:A[n]? with
 |none=>rw[E]at e;cases e|some o=>
  rw[E]at e;obtain⟨d,b,r⟩:=S.ob n o E;rw[c]at b;cases b;cases o with|lst x=>cases e;obtain⟨y,f,h⟩:=r;exact⟨a,y,rfl,q9.of f,h⟩|ro x=>cases e;obtain⟨y,f,h⟩:=r;exact⟨a,y,rfl,f.sq,h⟩|dct x=>cases e|td _=>cases e|tr _=>cases e|tab _ _=>cases e
section
variable {a:Expr}
theorem Ur {K:Frag}{f:W->Option PyData}(o:∀w v u d,RV K φ H w v->RelV v u->f w=some d->∃A,Reads h u d A):
  ∀{j:List W}{n:List V}{U:bS}{l:List PyData},zF K φ H j n->Vals n U->yJ f j=some l->∃A,ReadsAll h U l A
 |[],_,_,_,r,a,e=>by cases r;cases a;cases e;exact⟨[],.nil⟩|w::j,_,_,l,⟨v,r,i,q,t⟩,a,e=>by
  subst i;cases a with
  |cons g c=>
   unfold yJ at e;cases E:f w with
   |none=>rw[E]at e;cases e|some d=>
    cases b:yJ f j with
    |none=>rw[E,b]at e;cases e|some D=>
     rw[E,b]at e;cases e;obtain⟨A,x⟩:=o w v _ d q g E;obtain⟨bs,p⟩:=Ur o t c b;exact⟨_,.cons x p⟩
def GN {s:Shared}{A:Hx}(I:Inv X o6 σ H s)(S:zL X.K φ A H):∀(n:Nat)(w:W)(v:V)(u:Value)(d:PyData),RV X.K φ H w v->RelV v u->qE A n w=some d->∃C,Reads s.heap u d C:=by
 intro n
 induction n with
 |zero=>
  intro w v u d q r e;cases w with
  |non=>obtain rfl:=q;cases r;cases e;exact⟨_,.none⟩|bl k=>obtain rfl:=q;cases r;cases e;exact⟨_,.bool k⟩|int k=>obtain rfl:=q;obtain⟨t,rfl⟩:=r;cases e;exact⟨_,.int k t⟩|str k=>
   obtain rfl:=q;obtain⟨t,rfl⟩:=r;unfold qE at e
   split at e
   ·cases e;exact⟨_,.str k t⟩
   ·cases e
  |tup _=>cases e|ref _=>cases e|clo _ _ _=>unfold qE at e;cases e|xc _=>unfold qE at e;cases e|fn _=>unfold qE at e;cases e
 |succ n l=>
  intro w v u d q r e;cases w with
  |non=>obtain rfl:=q;cases r;cases e;exact⟨_,.none⟩|bl k=>obtain rfl:=q;cases r;cases e;exact⟨_,.bool k⟩|clo _ _ _=>unfold qE at e;cases e|xc _=>unfold qE at e;cases e|fn _=>unfold qE at e;cases e|int k=>obtain rfl:=q;obtain⟨t,rfl⟩:=r;cases e;exact⟨_,.int k t⟩|str k=>
   obtain rfl:=q;obtain⟨t,rfl⟩:=r;unfold qE at e
   split at e
   ·cases e;exact⟨_,.str k t⟩
   ·cases e
  |tup x=>
   obtain⟨a,J,rfl,h,c⟩:=q;cases r;unfold qE at e;cases E:yJ (qE A n) x with
   |none=>rw[E]at e;cases e|some D=>
    rw[E]at e;cases e;obtain⟨i,b,⟨o,B,z,k,g⟩,_⟩:=I.tuple h;obtain⟨C,f⟩:=Ur l c b E;exact⟨_,.tuple B z g (by simpa using f)⟩
  |ref k=>
   unfold qE at e;cases E:zI (.ref k) A with
   |none=>rw[E]at e;cases e|some x=>
    rw[E]at e;dsimp only at e;obtain⟨a,y,rfl,h,c⟩:=BD S q E;cases r;cases j:yJ (qE A n) x with
    |none=>rw[j]at e;cases e|some D=>
     rw[j]at e;cases e;obtain⟨i,b,⟨o,p,B,z,_,g⟩,_⟩:=I.list h;obtain⟨C,f⟩:=Ur l c b j;exact⟨_,.list B z g (by simpa using f)⟩
def DA {A:Hx}:∀(n:Nat)(w:W)(d:PyData),qE A n w=some d->d.canLay0=true/\d.depth<=n:=by
 intro n;have lst:∀{n:Nat},(∀(w:W)(d:PyData),qE A n w=some d->d.canLay0=true/\d.depth<=n)->∀(ws:List W)(ds:List PyData),yJ (qE A n) ws=some ds->PyData.canLayAll0 ds=true/\PyData.depthAll ds<=n:=by
  intro n i ws
  induction ws with
  |nil=>intro ds e;cases e;exact⟨by simp[PyData.canLayAll0],by simp[PyData.depthAll]⟩|cons w ws I=>
   intro ds e;unfold yJ at e;cases E:qE A n w with
   |none=>rw[E]at e;cases e|some d=>
    cases b:yJ (qE A n) ws with
    |none=>rw[E,b]at e;cases e|some D=>
     rw[E,b]at e;cases e;obtain⟨f,g⟩:=i w d E;obtain⟨H,c⟩:=I D b;refine⟨by simp[PyData.canLayAll0,f,H],?_⟩
     simp only[PyData.depthAll];lia
 induction n with
 |zero=>
  intro w d e;cases w with
  |tup _=>cases e|ref _=>cases e|clo _ _ _=>unfold qE at e;cases e|xc _=>unfold qE at e;cases e|fn _=>unfold qE at e;cases e|str x=>
   unfold qE at e
   split at e
   ·rename_i h;cases e;exact⟨by simp[PyData.canLay0,h],by simp[PyData.depth]⟩
   ·cases e
  |_=>cases e;exact⟨by simp[PyData.canLay0],by simp[PyData.depth]⟩
 |succ n i=>
  intro w d e;cases w with
  |clo _ _ _=>unfold qE at e;cases e|xc _=>unfold qE at e;cases e|fn _=>unfold qE at e;cases e|tup ws=>
   unfold qE at e;cases a:yJ (qE A n) ws with
   |none=>rw[a]at e;cases e|some ds=>
    rw[a]at e;cases e;obtain⟨f,g⟩:=lst i ws ds a;refine⟨by simp[PyData.canLay0,f],?_⟩
    simp only[PyData.depth];lia
  |ref k=>
   unfold qE at e;cases a:zI (.ref k) A with
   |none=>rw[a]at e;cases e|some ws=>
    rw[a]at e;dsimp only at e;cases E:yJ (qE A n) ws with
    |none=>rw[E]at e;cases e|some ds=>
     rw[E]at e;cases e;obtain⟨f,g⟩:=lst i ws ds E;refine⟨by simp[PyData.canLay0,f],?_⟩
     simp only[PyData.depth];lia
  |str x=>
   unfold qE at e
   split at e
   ·rename_i h;cases e;exact⟨by simp[PyData.canLay0,h],by simp[PyData.depth]⟩
   ·cases e
  |_=>cases e;exact⟨by simp[PyData.canLay0],by simp[PyData.depth]⟩
def wQ (n:Bool):W->W->Hx->R W:=λx y A=>match qE A 8 x,qE A 8 y with|some d,some D=>.ok (.bl (if n then !PyData.eqv d D else PyData.eqv d D)) A|_,_=>.bad
abbrev yi:=wQ false
abbrev je:=wQ true
def NL {n:Bool}:∀x y A,qY (wQ n x y A):=λx y A=>by
 unfold wQ
 split
 ·exact yf
 ·exact jh
def S9 (K:Frag)(n:Bool):R2:=λx y H Q=>∃a A u v d D,zL K a A H/\RV K a H u x/\RV K a H v y/\qE A 8 u=some d/\qE A 8 v=some D/\Q (.bl (if n then !PyData.eqv d D else PyData.eqv d D)) H
def G1 {A:Hx}{w:W}{d:PyData}(h:qE A 8 w=some d):SeqAt.shaped d=true:=by obtain⟨H,a⟩:=DA 8 w d h;unfold SeqAt.shaped;rw[H,Bool.true_and,aq];lia
def fC (g:X.A.units+64<cLine):qU X (compareOp .Eq) (S9 X.K false):=by intro p s n H x y v u Q I b r h;obtain⟨l,A,a,w,d,D,S,f,c,E,e,q⟩:=h;obtain⟨o,j⟩:=GN I S 8 a x v d f b E;obtain⟨bs,i⟩:=GN I S 8 w y u D c r e;exact eq_dataH j i (G1 E) (G1 e) g ⟨.bl _,H,I,rfl,q⟩
def fD (g:X.A.units+64<cLine):qU X (compareOp .NotEq) (S9 X.K true):=by intro p s n H x y v u Q I b r h;obtain⟨l,A,a,w,d,D,S,f,c,E,e,q⟩:=h;obtain⟨o,j⟩:=GN I S 8 a x v d f b E;obtain⟨bs,i⟩:=GN I S 8 w y u D c r e;exact ne_dataH j i (G1 E) (G1 e) g ⟨.bl _,H,I,rfl,q⟩
def O0 {K:Frag}{n:Bool}:yF K (S9 K n) (wQ n):=λb A H x y u v Q S a q p=>by
 unfold wQ at p;cases e:qE A 8 u with
 |none=>rw[e]at p;exact p.elim|some d=>
  cases E:qE A 8 v with
  |none=>rw[e,E]at p;exact p.elim|some D=>
   rw[e,E]at p;exact⟨b,A,u,v,d,D,S,a,q,e,E,p b H _ .refl S rfl⟩
def gk {k:Nat}(h:jd k X.A):gh X .Eq yi:=JK (fC h.units) NL O0
def ka {k:Nat}(h:jd k X.A):gh X .NotEq je:=JK (fD h.units) NL O0
end
mutual
noncomputable def W.nr:W->Bool
 |.tup w=>qQ w|.ref _=>false|.clo _ w _=>qQ w|_=>true
noncomputable def qQ:List W->Bool
 |[]=>true|w::ws=>w.nr&&qQ ws
end
def iso (f:Fn):Fn:=λu A=>if qQ u then(match f u [] with
 |.ok w a=>(match w with
  |.ref n=>(match a[n]? with|some (.lst ws)=>if qQ ws then .ok (.ref A.length) (A++[.lst ws]) else .bad|some (.dct kvs)=>if qQ (kvs.map (·.2)) then .ok (.ref A.length) (A++[.dct kvs]) else .bad|_=>.bad)
  |w=>if w.nr then .ok w A else .bad)
 |_=>.bad) else .bad
def wj (f:Fn):Fn:=λu A=>match u with
 |.ref n::u=>(match A[n]? with
  |some (.lst ws)=>if qQ ws&&qQ u then(match f (.ref 0::u) [.lst ws] with
   |.ok w a=>(match (List.head? a:Option O) with|some (.lst ws2)=>if qQ ws2&&w.nr then .ok w (A.set n (.lst ws2)) else .bad|_=>.bad)
   |_=>.bad) else .bad
  |_=>.bad)
 |_=>.bad
section
variable {K:Frag}{oF oJ:bU}{H' H1:Hp}{A A1:Hx}
mutual
theorem RV.nrm (T:∀a vs,qF K H a vs->qF K H' a vs)(z:∀a o u,H a=some (.frz o u)->H' a=some (.frz o u)):∀{w:W}{v:V},w.nr=true->RV K φ H w v->RV K oF H' w v
 |.non,_,_,h=>h|.bl _,_,_,h=>h|.int _,_,_,h=>h|.str _,_,_,h=>h|.tup j,_,n,⟨a,vs,e,t,r⟩=>⟨a,vs,e,T _ _ t,zF.nrm T z n r⟩|.ref _,_,n,_=>nomatch n
 |.clo _ j P,_,n,⟨a,ob,u,c,d,U,vs,e,i,g,f,r⟩=>⟨a,ob,u,c,d,U,vs,e,z _ _ _ i,z _ _ _ g,f,zF.nrm T z n r⟩|.xc _,_,_,⟨a,b,u,C,e,i,g⟩=>⟨a,b,u,C,e,z _ _ _ i,g⟩|.fn _,_,_,h=>h
theorem zF.nrm (T:∀a c,qF K H a c->qF K H' a c)(f:∀a o u,H a=some (.frz o u)->H' a=some (.frz o u)):∀{b:List W}{c:List V},qQ b=true->zF K φ H b c->zF K oF H' b c
 |[],_,_,h=>h|w::b,_,n,⟨v,r,e,h,t⟩=>by have N:(w.nr&&qQ b)=true:=n;rw[ak]at N;exact⟨v,r,e,RV.nrm T f N.1 h,zF.nrm T f N.2 t⟩
end
def zL.none:zL K [] [] H:=⟨rfl,λi j a o b _ _ h=>by simp at h,λn o h=>by simp at h⟩
def zL.frame (S:zL K φ A H)(k:∀a o,H a=some o->H1 a=some o)(l:Le K φ H φ H1):zL K φ A H1:=
 ⟨S.len,S.inj,λn o e=>let ⟨a,b,q⟩:=S.ob n o e;⟨a,b,q.keep l λu h=>k a u h⟩⟩
def Le.apart (l:Le K [] H oJ H1):Le K φ H φ H1/\∀a o,H a=some o->H1 a=some o:=
 have k:∀a o,H a=some o->H1 a=some o:=λa o h=>l.fr a o h λn e=>by simp at e
 ⟨⟨λ_ _ h=>h,l.tp,λa o h _=>k a o h,λ_ _ h=>.inl h,l.st,l.fz⟩,k⟩
def zL.trackN {u:HO}{o:O}(S:zL K φ A H)(I:H D=some u)(n:∀(k:Nat)(q:O),φ[k]? =some D->A[k]? =some q->q.mut=false)(new:OR K (φ++[D]) H D o):zL K (φ++[D]) (A++[o]) H:=by
 have l:QS K φ H (φ++[D]) H:=⟨λn a h=>by
  have:=(cu.mp h).1
  rw[ah this];exact h,λ_ _ h=>h,λ_ _ _ h=>h⟩
 have L:∀(i:Nat) a,(φ++[D])[i]? =some a->i<A.length->φ[i]? =some a:=λi a e f=>by rw[ah (by rw[S.len];exact f)]at e;exact e
 have M:∀a,(φ++[D])[A.length]? =some a->a=D:=λa e=>by
  rw[ar (by rw[S.len];exact ao _),S.len]at e
  simpa using e.symm
 refine⟨by simp[S.len],λi j a C B P N g b X U=>?_,λk T e=>?_⟩
 ·by_cases f:i<A.length
  ·rw[ah f]at g
   by_cases c:j<A.length
   ·rw[ah c]at b
    exact S.inj i j a C B (L i a P f) (L j a N c) g b X U
   ·exfalso
    have w:j=A.length:=by have:=(cu.mp b).1;simp at this;lia
    subst w;have z:=n i C (by rw[<- M a N];exact L i a P f) g
    rw[X]at z;cases z
  ·have y:i=A.length:=by have:=(cu.mp g).1;simp at this;lia
   by_cases c:j<A.length
   ·exfalso
    rw[ah c]at b;subst y;have z:=n j B (by rw[<- M a P];exact L j a N c) b
    rw[U]at z;cases z
   ·have:=(cu.mp b).1;simp at this;lia
 ·by_cases Y:k<A.length
  ·rw[ah Y]at e
   obtain⟨a,E,q⟩:=S.ob k T e;refine⟨a,l.ex _ _ E,?_⟩;cases T with|lst Q=>obtain⟨J,z,r⟩:=q;exact⟨J,z,r.monoW l⟩|dct Q=>obtain⟨J,z,Z,r⟩:=q;exact⟨J,z,Z,r.monoW l⟩|td _=>obtain⟨J,z,Z,t,r⟩:=q;exact⟨J,z,Z,λx p=>l.tp _ _ (t x p),r.monoW l⟩|tr _=>obtain⟨ob,u,J,z,d,Z,t,r⟩:=q;exact⟨ob,u,J,z,d,Z,λx p=>l.tp _ _ (t x p),r.monoW l⟩|tab _ _=>exact q|ro Q=>obtain⟨J,z,r⟩:=q;exact⟨J,z,r.monoW l⟩
  ·have v:k=A.length:=by have:=(cu.mp e).1;simp at this;lia
   subst v;rw[ar (ao _)]at e;simp at e;subst e;exact⟨D,by rw[ar (by rw[S.len];exact ao _),S.len];simp,new⟩
def zL.adopt {o:O}(S:zL K φ A H)(l:Le K [] H oJ H1)(p:oJ[n]? =some a)(m:∃u,H1 a=some u)(new:OR K (φ++[a]) H1 a o):
  Le K φ H (φ++[a]) H1/\zL K (φ++[a]) (A++[o]) H1/\RV K (φ++[a]) H1 (.ref A.length) (.ref a):=by
 obtain⟨L,k⟩:=l.apart (φ:=φ);have j:H a=Option.none:=by
  rcases l.nw n a p with e|e
  ·simp at e
  ·exact e
 obtain⟨u,b⟩:=m;have g:=S.frame k L;refine⟨L.Y1 j,g.trackN b (λk q f d=>?_) new,a,rfl,by rw[<- S.len];simp⟩
 cases c:q.mut with
 |false=>rfl|true=>
  obtain⟨i,E,r⟩:=S.ob k q d;rw[f]at E;cases E;obtain⟨z,h,_⟩:=r.there c;rw[j]at h;cases h
def OR.nrL {w:List W}(h:OR K φ H a (.lst w))(n:qQ w=true):OR K oF H a (.lst w):=let ⟨v,e,r⟩:=h;⟨v,e,r.nrm (λ_ _ t=>t) (λ_ _ _ t=>t) n⟩
def OR.nrD {b:List (Key×W)}(h:OR K φ H a (.dct b))(n:qQ (b.map (·.2))=true):OR K oF H a (.dct b):=let ⟨v,e,E,r⟩:=h;⟨v,e,E,r.nrm (λ_ _ t=>t) (λ_ _ _ t=>t) n⟩
theorem qR.iso {k:Nat}{f:Fn}(F:qR P w K mg base k x n f):qR P w K mg base k x n (iso f):=by
 obtain⟨fa,fd,ps,F,a,b,c⟩:=F;refine⟨fa,fd,ps,F.imp λvs H Q E ⟨z,I,A,J,S,r,q⟩=>?_,a,b,c⟩;unfold Mi.iso at q
 by_cases N:qQ J=true
 ·rw[ai N]at q
  refine⟨z,[],[],J,zL.none,r.nrm (λ_ _ t=>t) (λ_ _ _ t=>t) N,?_⟩;cases hf:f J [] with
  |ok w Y=>
   rw[hf]at q;dsimp only at q;intro u X v L C g;cases w with
   |ref m=>
    dsimp only at q;cases hm:Y[m]? with
    |none=>rw[hm]at q;exact q.elim|some o=>
     rw[hm]at q;obtain⟨D,i,d⟩:=C.ob m o hm;obtain⟨a2,rfl,e⟩:=g;rw[i]at e;cases e;cases o with
     |lst U=>
      dsimp only at q
      by_cases h:qQ U=true
      ·rw[ai h]at q
       obtain⟨t,M,_⟩:=d.there rfl;obtain⟨p,j,B⟩:=S.adopt L i ⟨t,M⟩ (o:=.lst U) (d.nrL h);exact q _ _ _ p j B
      ·rw[aj h]at q;exact q.elim
     |dct U=>
      dsimp only at q
      by_cases h:qQ (U.map (·.2))=true
      ·rw[ai h]at q
       obtain⟨t,M,_⟩:=d.there rfl;obtain⟨p,j,B⟩:=S.adopt L i ⟨t,M⟩ (o:=.dct U) (d.nrD h);exact q _ _ _ p j B
      ·rw[aj h]at q;exact q.elim
     |ro U=>exact q.elim|td _=>exact q.elim|tr _=>exact q.elim|tab _ _=>exact q.elim
   |_=>
    all_goals
     dsimp only at q;obtain⟨l,T⟩:=L.apart (φ:=I)
     first
      |exact q I X v l (S.frame T l) g
      |(
        split at q
        ·rename_i Z
         exact q I X v l (S.frame T l) (RV.nrm (λ_ _ t=>t) (λ_ _ _ t=>t) Z g)
        ·exact q.elim)
  |exc y Y=>rw[hf]at q;exact q.elim|bad=>rw[hf]at q;exact q.elim
 ·rw[aj N]at q;exact q.elim
theorem qR.wj {k:Nat}{f:Fn}(F:qR P w K mg base k x n f):qR P w K mg base k x n (wj f):=by
 obtain⟨fa,fd,ps,F,a,b,c⟩:=F;refine⟨fa,fd,ps,F.imp λvs H Q E ⟨hl,φ,A,ws,S,r,q⟩=>?_,a,b,c⟩;unfold Mi.wj at q;cases ws with
 |nil=>exact q.elim|cons w0 us=>cases w0 with
  |ref n=>
   dsimp only at q;cases l:A[n]? with
   |none=>rw[l]at q;exact q.elim|some o=>cases o with
    |lst xs=>
     rw[l]at q;dsimp only at q
     by_cases hn:(qQ xs&&qQ us)=true
     ·rw[ai hn]at q
      rw[ak]at hn;obtain⟨v0,vr,rfl,q0,qr⟩:=r;obtain⟨p,Y,rfl,f1,g1,g⟩:=S.lst q0 l;have S0:zL K [p] [.lst xs] H:=by
       refine⟨rfl,λi j a o o' h1 h2 T N _ _=>?_,λm o e=>?_⟩
       ·have:=(cu.mp h1).1
        have:=(cu.mp h2).1
        simp at*;lia
       ·have:m=0:=by have:=(cu.mp e).1;simp at this;lia
        subst this;simp at e;subst e;exact⟨p,rfl,Y,g1,g.nrm (λ_ _ t=>t) (λ_ _ _ t=>t) hn.1⟩
      refine⟨hl,[p],[.lst xs],.ref 0::us,S0,.cons ⟨p,rfl,rfl⟩ (qr.nrm (λ_ _ t=>t) (λ_ _ _ t=>t) hn.2),?_⟩;cases hf:f (.ref 0::us) [.lst xs] with
      |ok w A1=>
       rw[hf]at q;dsimp only at q;intro C H1 v L S1 q1;cases h0:List.head? A1 with
       |none=>rw[h0]at q;exact q.elim|some o=>cases o with
        |lst zs=>
         rw[h0]at q;dsimp only at q
         by_cases hw:(qQ zs&&w.nr)=true
         ·rw[ai hw]at q
          rw[ak]at hw;have apart:∀a o,a≠p->H a=some o->H1 a=some o:=λa o ne h=>L.fr a o h λm e=>by
           have:m=0:=by have:=(cu.mp e).1;simp at this;lia
           subst this;simp at e;exact ne e.symm
          have lf:Le K φ H φ H1:=⟨λ_ _ h=>h,L.tp,λa o h nn=>apart a o (λe=>nn n (by rw[e];exact f1)) h,λ_ _ h=>.inl h,L.st,L.fz⟩
          have hp:C[0]? =some p:=L.ex 0 p rfl;obtain⟨p',B,U,J,I⟩:=S1.ob 0 _ (by rw[<- List.head?_eq_getElem?];exact h0)
          rw[hp]at B;cases B;refine q φ H1 v lf ?_ (RV.nrm (λ_ _ t=>t) (λ_ _ _ t=>t) hw.2 q1);have mt:∀(i:Nat)(w:O),(A.set n (.lst zs))[i]? =some w->w.mut=true->∃M,A[i]? =some M/\M.mut=true:=λi w e mw=>by
           by_cases hi:i=n
           ·subst hi;exact⟨_,l,rfl⟩
           ·rw[aw (Ne.symm hi)]at e;exact⟨w,e,mw⟩
          refine⟨by simp[S.len],λi j a o1 o2 h1 h2 T N m1 m2=>?_,λi w e=>?_⟩
          ·obtain⟨Z,B,k1⟩:=mt i o1 T m1
           obtain⟨X,J,k2⟩:=mt j o2 N m2;exact S.inj i j a Z X h1 h2 B J k1 k2
          ·by_cases hi:i=n
           ·subst hi
            have:i<A.length:=(cu.mp l).1
            rw[av this]at e;cases e;exact⟨p,f1,U,J,I.nrm (λ_ _ t=>t) (λ_ _ _ t=>t) hw.1⟩
           ·rw[aw (Ne.symm hi)]at e
            obtain⟨a,B,D⟩:=S.ob i w e;refine⟨a,B,?_⟩
            by_cases hm:w.mut=true
            ·have ne:a≠p:=λz=>hi (S.inj i n a w _ B (by rw[z];exact f1) e l hm rfl)
             exact D.keep lf λz hz=>apart a z ne hz
            ·cases w with
             |lst _=>exact absurd rfl hm|dct _=>exact absurd rfl hm|td _=>exact absurd rfl hm|tr _=>obtain⟨ob,u,vs,q,d,k,t,r⟩:=D;exact⟨ob,u,vs,lf.fz _ _ _ q,d,k,λx hx=>lf.tp _ _ (t x hx),r.mono lf⟩|tab _ _=>exact absurd rfl hm|ro ws=>
              obtain⟨vs,g,I⟩:=D;refine⟨vs,?_,I.mono lf⟩;rcases g with ⟨ob,g⟩|g
              ·refine .inl ⟨ob,apart a _ ?_ g⟩
               intro z;subst z;rw[g1]at g;cases g
              ·exact .inr g
         ·rw[aj hw]at q;exact q.elim
        |_=>rw[h0]at q;exact q.elim
      |exc y A1=>rw[hf]at q;exact q.elim|bad=>rw[hf]at q;exact q.elim
     ·rw[aj hn]at q;exact q.elim
    |_=>rw[l]at q;exact q.elim
  |_=>exact q.elim
end
section
variable {K:Frag}{a b:Expr}{es:bZ}{m:Ev}{st:Stmt}
noncomputable def intsOf:List W->Option (bR)
 |[]=>some []|w::ws=>match w with
  |.int i=>match intsOf ws with|some I=>some (i::I)|none=>none
  |_=>none
theorem Gx:∀{a:List W}{n:bR},intsOf a=some n->a=n.map W.int
 |[],_,e=>by cases e;rfl|w::a,n,e=>by
  unfold intsOf at e;cases w with
  |int i=>
   dsimp only at e;cases E:intsOf a with|none=>rw[E]at e;cases e|some I=>rw[E]at e;cases e;rw[Gx E];rfl
  |_=>cases e
noncomputable def yu:List Int->Int->Int
 |[],m=>m|i::is,m=>yu is (if i > m then i else m)
def we:List Int->Int->Int
 |[],m=>m|i::is,m=>we is (m+i)
def preSum_eq (n:bR):∀k,preSum (λi=>n.getD i 0) k+we (n.drop k) 0=we n 0∨n.length<k:=by
 have add:∀(l:bR)(m:Int),we l m=m+we l 0:=λl=>by
  induction l with|nil=>intro m;show m=m+0;lia|cons i b I=>intro m;show we b (m+i)=m+we b (0+i);rw[I (m+i),I (0+i)];lia
 intro k
 induction k with
 |zero=>left;show(0:Int)+we n 0=_;lia|succ k I=>
  rcases I with I|I
  ·by_cases h:k<n.length
   ·left
    have e:n.drop k=n[k]::n.drop (k+1):=List.drop_eq_getElem_cons h;rw[e]at I;have a:we (n[k]::n.drop (k+1)) 0=n[k]+we (n.drop (k+1)) 0:=by show we (n.drop (k+1)) (0+n[k])=_;rw[add];lia
    rw[a]at I;show preSum _ k+n.getD k 0+_=_;have E:n.getD k 0=n[k]:=by rw[aa,ae h];rfl
    rw[E];lia
   ·right;lia
  ·right;lia
def EN (n:bR):preSum (λi=>n.getD i 0) n.length=we n 0:=by
 rcases preSum_eq n n.length with h|h
 ·rw[drop_length]at h
  have:we [] 0=0:=rfl
  lia
 ·lia
def Dk (n:bR):∀(k:Nat)(a:k<n.length),yu (n.drop (k+1)) (n.getD (argBest (λi j=>decide (n.getD i 0 > n.getD j 0)) k) 0)=yu n.tail (n.getD 0 0):=by
 intro k
 induction k with
 |zero=>intro _;rw[show argBest _ 0=0 from rfl,List.drop_one]|succ k I=>
  intro a;have H:k<n.length:=by lia
  rw[<- I H];have e:n.drop (k+1)=n[k+1]::n.drop (k+1+1):=List.drop_eq_getElem_cons a;rw[e];have E:n.getD (k+1) 0=n[k+1]:=by rw[aa,ae a];rfl
  show yu _ (n.getD (if decide (n.getD (k+1) 0 > n.getD (argBest _ k) 0)=true then k+1 else argBest _ k) 0)=yu _ (if n[k+1] > n.getD (argBest _ k) 0 then n[k+1] else n.getD (argBest _ k) 0);rw[E]
  by_cases h:n[k+1] > n.getD (argBest (λi j=>decide (n.getD i 0 > n.getD j 0)) k) 0
  ·rw[ai (by rw[aq];exact h),ai h,E]
  ·rw[aj (by rw[aq];exact h),aj h]
def XM (K:Frag)(C:List Int->Prop)(f:List Int->Int):List V->Hp->VK->Prop:=λx H Q=>∃a n,x=[.ref a]/\(q9 K H a (n.map V.int)∨qF K H a (n.map V.int))/\C n/\Q (.int (f n)) H
def G7 (r:Vals (ns.map V.int) oE){v:Value}(h:oE[i]? =some v):∃t,v=.int (ns.getD i 0) t:=by
 have a:i<oE.length:=(cu.mp h).1;have H:i<ns.length:=by have:=r.length;rw[af]at this;lia
 obtain⟨u,b,c⟩:=r.get (i:=i) (x:=V.int ns[i]) (by simp[H])
 rw[h]at b;cases b;obtain⟨t,rfl⟩:=c;exact⟨t,by rw[aa,ae H];rfl⟩
def E2 (f:X.calm=true):yB X (.builtin "sum") (XM X.K (λ_=>True) λns=>we ns 0):=by
 intro P s x H y U Q I r h;obtain⟨a,ns,rfl,z,_,q⟩:=h;obtain⟨u,rfl,d⟩:=vals1 r;cases d;refine call_sum_walkG (GO I f z λb g o w S A c j W l p B=>?_);refine⟨g,o,w,_,_,S,λi=>ns.getD i 0,rfl,W,l,p,λi v h=>G7 c h,λn t T k=>?_⟩;have e:b.length=ns.length:=by have:=c.length;rw[af]at this;lia
 rw[e,EN];exact⟨.int _,H,B n t k,⟨_,rfl⟩,q⟩
def DP (o:X.calm=true):yB X (.builtin "max") (XM X.K (λns=>ns≠[]) λns=>yu ns.tail (ns.getD 0 0)):=by
 intro P s σ H xs us Q I r h;obtain⟨a,ns,rfl,z,f,q⟩:=h;obtain⟨u,rfl,l⟩:=vals1 r;cases l;have L:0<ns.length:=List.length_pos_iff.mpr f;refine call_max_walk (GO I o z λd y fp N S s2 c J W Y p M=>?_);have e:d.length=ns.length:=by have:=c.length;rw[af]at this;lia
 refine⟨y,fp,N,_,_,S,λi j=>decide (ns.getD i 0 > ns.getD j 0),rfl,W,Y,p,by lia,?_,λv h' T n k=>?_⟩
 ·intro i j D C Z Q' E h1 h2 x
  obtain⟨U,rfl⟩:=G7 c h1;obtain⟨g,rfl⟩:=G7 c h2;exact(PyProof.Rows.gt_int x:wpAny (model X.prog X.w) X.A.in1 (compareOp .Gt (.int (ns.getD i 0) U) (.int (ns.getD j 0) g)) Q' E Z)
 ·obtain⟨t,rfl⟩:=G7 c n
  rw[e];have b:=Dk ns (ns.length-1) (by lia)
  rw[show ns.length-1+1=ns.length by lia,drop_length]at b
  have B:ns.getD (argBest (λi j=>decide (ns.getD i 0 > ns.getD j 0)) (ns.length-1)) 0=yu ns.tail (ns.getD 0 0):=b;rw[B];exact⟨.int _,H,M h' T k,⟨_,rfl⟩,q⟩
def gq:List W->Hx->R W:=λw A=>match intsOf w with|some (i::is)=>.ok (.int (yu is i)) A|_=>.bad
def wH:List W->Hx->R W:=λw A=>match intsOf w with|some i=>.ok (.int (we i 0)) A|none=>.bad
def fE:∀ws A,qY (gq ws A):=λws A=>by
 unfold gq;split
 ·exact yf
 ·exact jh
def fF:∀ws A,qY (wH ws A):=λws A=>by
 unfold wH;split
 ·exact yf
 ·exact jh
def PX {w:List W}{a:Addr}(z:q9 K H a ys∨qF K H a ys)(r:zF K φ H w ys)(e:intsOf w=some ns):q9 K H a (ns.map V.int)∨qF K H a (ns.map V.int):=by rw[Gx e]at r;rw[<- zF.ints.mp r];exact z
def Al:Jk K (XM K (λns=>ns≠[]) λns=>yu ns.tail (ns.getD 0 0)) gq:=λb A H a y w Q S z r p=>by
 unfold gq at p;cases e:intsOf w with
 |none=>rw[e]at p;exact p.elim|some ns=>cases ns with|nil=>rw[e]at p;exact p.elim|cons i I=>rw[e]at p;exact⟨a,i::I,rfl,PX z r e,(by intro z;cases z),p b H _ .refl S rfl⟩
def fG:Jk K (XM K (λ_=>True) λns=>we ns 0) wH:=λb A H a y w Q S z r p=>by
 unfold wH at p;cases e:intsOf w with|none=>rw[e]at p;exact p.elim|some ns=>rw[e]at p;exact⟨a,ns,rfl,PX z r e,trivial,p b H _ .refl S rfl⟩
def Jg (y:W):List W->Nat->Nat
 |[],n=>n|w::ws,n=>Jg y ws (if J0 w y then n+1 else n)
theorem G9 (y:W):∀(a:List W)(n:Nat),Jg y a n=n+a.countP λw=>J0 w y
 |[],n=>by simp[Jg]|w::a,n=>by
  show Jg y a _=_;rw[G9 y a,bI]
  by_cases h:J0 w y=true
  ·rw[ai h,ai h];lia
  ·rw[aj h,aj h];lia
def Xb:W->W->Hx->R W:=λx y A=>match x with|.tup w=>if yA y&&w.all yA then .ok (.int (Jg y w 0)) A else .bad|_=>.bad
def fH (K:Frag):V->List V->Hp->VK->Prop:=λx v H Q=>∃a X y,x=.ref a/\v=[y]/\qF K H a X/\wN y=true/\X.all wN=true/\Q (.int (X.countP λz=>g7 z y)) H
theorem Um {y:V}:∀{x:List V}{u:bS},Vals x u->x.all wN=true->u.countP (Zv y)=x.countP λz=>g7 z y
 |_,_,.nil,_=>rfl|_,_,.cons r t,h=>by rw[all_cons,ak]at h;rw[bI,bI,Um t h.2,Tq r h.1]
def CJ:Ki X "tuple.count" (fH X.K):=by
 intro p s w H x B v U Q I b d h;obtain⟨a,A,y,rfl,rfl,t,j,f,q⟩:=h;cases b;obtain⟨u,rfl,e⟩:=d.one;obtain⟨i,r,P,_⟩:=I.tuple t;obtain⟨⟨C,D,data,S⟩,o,c,n,l⟩:=id P;simp only at c l;subst c l;refine call_meets F.slot_tuple_count ⟨_,o,rfl⟩ F.entry_tuple_count (F.args_tuple_count_2 _ _) (SeqAt.tuple_countAt a i.toArray n D S u (Zv y)) ⟨o,λz g=>KN e j r f z (by simpa using g),?_⟩
 refine⟨.int _,H,I.tok _,⟨_,rfl⟩,?_⟩;rw[<- Um r f]at q;simpa using q
def TZ (g:W->W->Hx->R W)(a b:Ev):Ev:=λc A=>(a c A).bind λx e=>match x with|.tup w=>(b c e).bind λy d=>g (.tup w) y d|_=>.bad
def fJ (K:Frag)(r:V->List V->Hp->VK->Prop)(to:TE)(t:TA):TE:=λa H Q=>to a H λx b=>∃p y,x=.ref p/\qF K b p y/\t a b λX h=>r x X h Q
def fK {o:Expr}{to:TE}{t:TA}{N:Str}{id:String}{r:V->List V->Hp->VK->Prop}(S:Slot "tuple" N id)(y:typeOf (.builtin id)=pure (.type "method_descriptor"))(hm:Ki X id r)(u:PE X o to)(z:PA X (e::es) t)
  (c:attributeBase o N X.env (eval o X.env)=eval o X.env)
  (w:((backTo oD (starEach (e::es) X.env)).all (λx=>!x.1)&&(backToKw oD (keywordEach [] X.env)).all (λx=>x.1.isSome)
   && decide ((e::es).length+([]:cb).length+(if ([]:cb).isEmpty then 0 else 1)<30))=true)
  (b:(oH.endLine==oD.line)=true)(l:ji e es X)(n:wR oD es X):
  PE X (.Call (.Attribute o N oH) (e::es) [] oD) (fJ X.K r to t):=by
 intro P s J H Q I h;refine wpAny_Call_method_late c w b rfl (zU (u P s J H _ I h) λv T ⟨x,H1,i,f,p,Y,E,ty,g⟩=>?_);subst E;cases f;obtain⟨j,_,Z,_⟩:=i.tuple ty;refine⟨"tuple",id,PySem.F.plainAttrs_tuple,S,y,Z.typeIs,λa B=>by cases B;exact i.tupleN ty,?_⟩
 have A:=z oD P T J H1 _ i g;rw[l]at A ⊢;refine Calls.callWith_builtin (by show(false || (backTo oD (starEach es X.env)).any (·.1))=false;rw[n];rfl) (Calls.evalArgs_plain ?_)
 exact zU A λU M ⟨L,D,C,d,q⟩=>hm P M J D (.ref p) L (.ref p) U Q C rfl d q
theorem Ui {x:W}(q:RV K φ H x v)(e:yA x=true):∀{X:List W}{a:List V},zF K φ H X a->X.all yA=true->a.all wN=true/\(a.countP λz=>g7 z v)=X.countP λz=>J0 z x
 |[],_,r,_=>by cases r;exact⟨rfl,rfl⟩|w::ws,_,⟨y,r,E,h,t⟩,h2=>by
  subst E;rw[all_cons,ak]at h2;obtain⟨I,i⟩:=Ui q e t h2.2;refine⟨by rw[all_cons,KG h h2.1,I];rfl,?_⟩
  rw[bI,bI,i,P7 h q h2.1 e]
variable {c:Expr}
def Rb (l d:Int)(n:Nat):It:=⟨λi _=>i<n,λi H x h=>h=H/\x=.int (l+i * d),λi _=>n<=i⟩
def FY (B:Addr)(L d:Int)(n:Nat):Turn P w K tg (Rb L d n) [B] B (λi h=>IsRangeIter h B (L+(i:Nat) * d) ((n:Int)-(i:Nat)) d) where
 mem:=by simp
 obj:=λi h y b a=>by
  have q:b=B:=by simpa using a
  subst q;exact⟨_,y,λv z=>nomatch (show Data.fields _=Data.cell v from z)⟩
 keep:=λi h D y k=>k B (by simp) _ y
 item:=by
  intro X e J f c i A s U H E I C y g;subst e J f;obtain⟨Q,N,Z,l,M,j⟩:=C B (by simp)
  have u:=Walks.range (prog:=X.prog) (w:=X.w) (I.ok.hd c) B L d n;refine u.item i s _ _ g y λv D T r S Y=>?_;obtain⟨t,rfl⟩:=r;have x:Inv X A U H { s with heap:=D,toks:=T }:=I.turned (λb o a p=>Y b o (by simpa using a) p) Q N l M j
  exact⟨_,rfl,XI (s:={ s with heap:=D,toks:=T }) (n := "range_iterator") S rfl rfl (by decide) ⟨.int (L+i * d),H,x,⟨t,rfl⟩,⟨rfl,rfl⟩,S,λb a=>(C b a).1⟩⟩
 done:=by
  intro X e J f c i A s U H E I C y g;subst e J f;obtain⟨Q,N,Z,l,M,j⟩:=C B (by simp)
  exact wpAny_pyNext_range_end (I.ok.hd c) y (by have hn:n<=i:=g;lia) λD q=>⟨rfl,I.turned (t':=s.toks) (λb o a p=>q b o a p) Q N l M j⟩
 self:=λ_ _ _ _ _ y h=>wpAny_pyIter_rangeiter y h
def rangeSize_down (x y:Int):Builtin.Range.rangeSize x y (-1)=((x-y).toNat:Int):=by
 unfold Builtin.Range.rangeSize;rw[aj (by decide)]
 split
 ·rw[show -(-1:Int)=1 by rfl,Int.ediv_one];lia
 ·lia
def small_down {x y:Int}(b:-(2 ^ 62)<=x)(a:x<2 ^ 62)(H:-(2 ^ 62)<=y)(h:y<2 ^ 62):Builtin.Range.small x y (-1)=true:=by
 unfold Builtin.Range.small;rw[rangeSize_down];simp only[Builtin.Range.rangeFitsLong,ak,a3,decide_eq_true_eq,aL,show ¬((-1:Int) > 0) by decide,if_false]
 lia
def fL (t:TA):TI:=λa H R=>t a H λv h=>∃i j:Int,v=[.int i,.int j,.int (-1)]/\(-(2 ^ 62)<=i/\i<2 ^ 62/\-(2 ^ 62)<=j/\j<2 ^ 62)/\R (Rb i (-1) (i-j).toNat) h
def E8 {t:TA}(z:Gl X "range")(hm:X.mg "range"=none)(B:PA X [a,b,c] t)(v:starEach [a,b,c] X.env=(false,eval a X.env)::starEach [b,c] X.env)(w:(backTo o7 (starEach [b,c] X.env)).any (·.1)=false):
  PI X tg (.Call (.Name "range" p) [a,b,c] [] o7) (fL t):=by
 intro P s M H R I h;refine Call_ (Qu I z hm boot_range (PyProof.Rows.callWith_type1 (zU (B o7 P s M H _ I h) λY S ⟨vs,N,J,f,Q⟩=>?_) v w));obtain⟨i,j,rfl,⟨Q,n,l,g⟩,q⟩:=Q;obtain⟨U,u,rfl,⟨t1,rfl⟩,r⟩:∃U u,Y=U::u/\RelV (.int i) U/\Vals [.int j,.int (-1)] u:=by
  cases f with|cons x y=>exact⟨_,_,rfl,x,y⟩
 obtain⟨L,K,rfl,⟨T,rfl⟩,⟨Z,rfl⟩⟩:=r.two;refine call_range_3 (by decide) ?_ (.inl (PyProof.noPylong_small (by lia)))
 have d:Inv X P M N { S with heap:=S.heap.push { cls:=.type "range",data:=.fields #[.int i t1,.int j T,.int (-1) Z] } }:=J.kept (t':=S.toks) λb o e=>ag _ e
 refine wpAny_pyIter_range (IsRange.new ..) (small_down Q n l g) ?_;refine⟨_,[_],_,_,N,rfl,d.kept (t':=S.toks) λb o e=>ag _ e,FY _ i (-1) (i-j).toNat,?_,λb A=>?_,q⟩
 ·have D:i+((0:Nat):Int) * (-1)=i:=by simp
  have C:(((i-j).toNat:Nat):Int)-((0:Nat):Int)=Builtin.Range.rangeSize i j (-1):=by rw[rangeSize_down];lia
  show IsRangeIter _ _ (i+((0:Nat):Int) * (-1)) ((((i-j).toNat:Nat):Int)-((0:Nat):Int)) (-1);rw[D,C];exact aD _ rfl
 ·have E:=cz.mp A
  subst E;exact d.fpOk (ao _) (d.hok.fresh (ao _))
def Ka (h:Int)(n:Nat):jA:=⟨λ_ i=>if i<n then some (some (.int (h-i))) else some none,n⟩
def fM {a:Int}:Qb K φ H (Ka a n) (Rb a (-1) n):=λi b d A l S=>by
 unfold Ka;dsimp only
 by_cases h:i<n
 ·rw[ai h]
  refine⟨λw e=>?_,λe=>by cases e⟩
  cases e;refine⟨h,λx f ⟨c,E⟩=>?_⟩;subst c;refine⟨.refl,S,?_⟩;rw[E];show V.int _=V.int _
  congr 1;lia
 ·rw[aj h]
  exact⟨λw e=>(by cases e),λ_=>Nat.le_of_not_lt h⟩
def XA (m M:Ev):Ei:=λb A=>(m b A).bind λw d=>(M b d).bind λa c=>match w,a with|.int i,.int j=>if jv i&&jv j then .ok (Ka i (i-j).toNat) c else .bad|_,_=>.bad
def fO (t:TA):TE:=λa H Q=>t a H λv h=>∃j:Int,v=[.int j]/\∀p,h p=none->Q (.ref p) (upd h p (.rng 0 j))
def BW {T:TA}(g:Gl X "range")(l:X.mg "range"=none)(e:PA X [a] T)(d:starEach [a] X.env=[(false,eval a X.env)]):PE X (.Call (.Name "range" p) [a] [] o7) (fO T):=by intro P s f H Q I h;refine Call_ (Qu I g l boot_range (PyProof.Rows.callWith_type1 (zU (e o7 P s f H _ I h) λU S ⟨v,n,i,r,c⟩=>?_) d rfl));obtain⟨j,rfl,q⟩:=c;obtain⟨u,rfl,⟨t,rfl⟩⟩:=r.one;refine call_range_1 ⟨.ref _,_,i.laid (o:=.rng 0 j) (λb o E=>ag _ E) (ao _) ?_,rfl,q _ (i.hok.fresh (ao _))⟩;exact⟨_,_,_,aD _ rfl⟩
def J2 (n:Nat):List V:=(List.range n).map λ(i:Nat)=>V.int i
def Eg (B:X.calm=true):yB X (.type "list") (λL H Q=>∃(r:Addr) (j:Int),L=[.ref r]/\H r=some (.rng 0 j)/\(-(2 ^ 62)<=j/\j<2 ^ 62)/\j.toNat<=sizeLine/\∀l,H l=none->Q (.ref l) (upd H l (.lst (J2 j.toNat)))):=by
 intro P s Z H L us Q I r h;obtain⟨p,j,rfl,y,⟨E,D⟩,z,q⟩:=h;obtain⟨u,rfl,w⟩:=vals1 r;cases w;obtain⟨N,g,M,A⟩:=I.hok p _ y;have J:sizeLine=16777216:=sizeLine_eq;refine PySem.call_list_range (n:=j.toNat) (I.ok.hd B) (show IsRange s.heap p 0 j 1 N g M from A) (small_one (by lia) (by lia) E D) (by rw[rangeSize_one];split<;>lia) (by lia) λh' T K C U S ⟨Y,d⟩=>?_
 refine⟨.ref s.heap.objs.size,_,I.laid (t':=T) (o:=.lst (J2 j.toNat)) U (ao _) ?_,rfl,q _ (I.hok.fresh (ao _))⟩;refine⟨by unfold J2;simpa using z,K.toList,C,?_,by simpa using S⟩
 have a:∀(l:bS)(k:Nat),(∀(i:Nat) v,l[i]? =some v->∃t,v=.int ((k+i:Nat):Int) t)->Vals ((List.range' k l.length).map λ(i:Nat)=>V.int i) l:=by
  intro l
  induction l with
  |nil=>intro k _;exact .nil|cons v l x=>
   intro k e;rw[bc,range'_succ,aS];refine .cons ?_ (x (k+1) λi f a=>?_)
   ·obtain⟨t,rfl⟩:=e 0 v rfl
    exact⟨t,rfl⟩
   ·obtain⟨t,rfl⟩:=e (i+1) f (by simpa using a)
    exact⟨t,by congr 1;lia⟩
 have b:K.toList.length=j.toNat:=by simpa using Y
 have:=a K.toList 0 λi v c=>by
  obtain⟨t,rfl⟩:=d i v (by simpa using c)
  exact⟨t,by congr 1;lia⟩
 rw[b]at this;unfold J2;rw[range_eq_range'];exact this
def U3 (m:Ev):Ev:=λb A=>(m b A).bind λw a=>match w with|.int j=>if jv j&&decide (j.toNat<=zX) then .ok (.ref a.length) (a++[.lst ((List.range j.toNat).map λ(i:Nat)=>W.int i)]) else .bad|_=>.bad
def fP:V->V->Hp->VK->Prop:=λo i H Q=>∃p x k v,o=.ref p/\i=.int k/\0<=k/\H p=some (.lst x)/\x[k.toNat]? =some v/\Q v H
def Bh:Lb X fP:=by intro w s y H o i g j Q I ro d h;obtain⟨p,A,k,v,rfl,rfl,x,f,e,q⟩:=h;cases ro;obtain⟨t,rfl⟩:=d;obtain⟨a,r,P,z⟩:=I.list (q9.of f);obtain⟨u,b,c⟩:=r.get e;have B:=YQ;have l:=r.length;have n:k.toNat<a.length:=(cu.mp b).1;exact wpAny_getItem_list P.isList x (by lia) (by simpa using b) ⟨v,H,I,c,q⟩
def Xy (M e f:Ev):Ex:=λc A=>(M c A).bind λo g=>(e c g).bind λi d=>match o,i with
 |.ref n,.int k=>if 0<=k then(match (d[n]?:Option O) with
  |some (.lst ws)=>match ws[k.toNat]? with
   |some (.int x)=>(f c d).bind λy b=>match y with|.int y=>(gQ (.ref n) (.int k) (.int (x+y)) b).bind λ_ a=>.ok (.nx c) a|_=>.bad
   |_=>.bad
  |_=>.bad) else .bad
 |_,_=>.bad
def Xi (i j k:Nat):Tg:=λw a=>match w with|.tup [x,.tup [y,z]]=>some (((a.set i (some x)).set j (some y)).set k (some z))|_=>none
end
def jR (k:Bool)(h:Heap)(I a:Addr)(i:Nat):Prop:=if k=true then h.IsListIter I a i else h.IsTupleIter I a i
def yr (k:Bool)(h:Heap)(a:Addr)(i:Array Value):Prop:=if k=true then h.IsList a i else h.IsTuple a i
def wL (k:Bool)(K:Frag)(H:Hp)(a:Addr)(x:List V):Prop:=if k=true then q9 K H a x else qF K H a x
noncomputable def JX (k:Bool):String:=if k then "list_iterator" else "tuple_iterator"
def jR.ob {k:Bool}{I:Addr}(x:jR k h I a i):∃o,h.get? I=some o/\o.cls=.type (JX k)/\o.data=.fields #[.ref a,.int i 0]:=by cases k<;>exact x
def jR.mk {k:Bool}{I:Addr}(x:∃o,h.get? I=some o/\o.cls=.type (JX k)/\o.data=.fields #[.ref a,.int i 0]):jR k h I a i:=by cases k<;>exact x
def jR.to {k:Bool}{I:Addr}(x:jR k h I a i)(e:∀o,h.get? I=some o->h'.get? I=some o):jR k h' I a i:=let ⟨o,H,r⟩:=x.ob;.mk ⟨o,e o H,r⟩
def yr.ob {k:Bool}{i:Array Value}(x:yr k h a i):∃o,h.get? a=some o/\o.cls=.type (if k then "list" else "tuple")/\∃n,o.data=.seq i n:=by cases k<;>exact x
def yr.to {k:Bool}{i:Array Value}(x:yr k h a i)(e:∀o,h.get? a=some o->h'.get? a=some o):yr k h' a i:=by
 cases k with|false=>exact let ⟨o,H,r⟩:=x.ob;⟨o,e o H,r⟩|true=>exact let ⟨o,H,r⟩:=x.ob;⟨o,e o H,r⟩
section
variable {prog:Program}{A:Around}{s:Shared}{k:Bool}{it:Addr}{items:Array Value}
def OX (h:yr k s.heap a items)(H:Q (.ref s.heap.objs.size) { s with heap:=s.heap.push { cls:=.type (JX k),data:=.fields #[.ref a,.int 0 0] } }):wpAny (model prog w) A (pyIter (.ref a)) Q E s:=by
 cases k with|true=>exact wpAny_pyIter_list h H|false=>exact wpAny_pyIter_tuple h H
def GZ {x:Value}(t:jR k s.heap it a i)(l:yr k s.heap a items)(f:items[i]? =some x)
  (g:∀h',jR k h' it a (i+1)->Heap.SameBut it s.heap h'->Q x { s with heap:=h' }):wpAny (model prog w) A (Builtin.SmallTypes.nextOf (.ref it)) Q E s:=by
 cases k with
 |true=>exact wpAny_nextOf_list_item t l f g|false=>
  have h:s.heap.IsTupleIter it a i:=t;obtain⟨o,b,e,H⟩:=id h;obtain⟨j,c,_,n,d⟩:s.heap.IsTuple a items:=l;unfold Builtin.SmallTypes.nextOf;refine cj (wpAny_callSpecial?_slot (name:=Str.ofString "__next__") h.typeIs F.slot_tuple_iterator_next (wpAny_call_entry F.slot_tuple_iterator_next h.typeIs F.entry_tuple_iterator_next ?_ (F.args_tuple_iterator_next_1 _)));show wpAny _ _ (field (.ref it) 0 >>= _) _ _ s;refine cj (wpAny_field b H (x:=.ref a) rfl ?_);show wpAny _ _ (if (Value.ref a==Value.none)=true then _ else _) _ _ s;rw[aj (show ¬((Value.ref a==Value.none)=true) from aH)]
  show wpAny _ _ (field (.ref it) 1 >>= _) _ _ s;refine cj (wpAny_field b H (x:=.int i 0) rfl ?_);show wpAny _ _ (seqItems? (.ref a) >>= _) _ _ s;refine cj (wpAny_seqItems c d ?_);simp only[aB,f];refine cj (wpAny_setField b H (by simp) (cn ⟨x,rfl,cn (g _ (.mk ?_) (Heap.SameBut.update ..))⟩))
  exact⟨_,Heap.get?_update_self _ b (Obj.isFreed_of_fields (Obj.data_mapFields H _)),(Obj.cls_mapFields ..).trans e,by rw[Obj.data_mapFields H];simp[rawInt]⟩
def TF (d:A.handled=none)(t:jR k s.heap it a i)(l:yr k s.heap a items)(g:items[i]? =none)
  (j:∀h' e,Heap.ExtBut it s.heap h'->(∃o,h'.get? e=some o/\o.cls=.type "StopIteration")->E (.ref e) { s with heap:=h' }):wpAny (model prog w) A (Builtin.SmallTypes.nextOf (.ref it)) Q E s:=by
 cases k with
 |true=>exact wpAny_nextOf_list_end d t l g j|false=>
  have h:s.heap.IsTupleIter it a i:=t;obtain⟨p,H,n,b⟩:=id h;obtain⟨q,c,_,N,f⟩:s.heap.IsTuple a items:=l;unfold Builtin.SmallTypes.nextOf;refine cj (wpAny_callSpecial?_slot (name:=Str.ofString "__next__") h.typeIs F.slot_tuple_iterator_next (wpAny_call_entry F.slot_tuple_iterator_next h.typeIs F.entry_tuple_iterator_next ?_ (F.args_tuple_iterator_next_1 _)));show wpAny _ _ (field (.ref it) 0 >>= _) _ _ s;refine cj (wpAny_field H b (x:=.ref a) rfl ?_);show wpAny _ _ (if (Value.ref a==Value.none)=true then _ else _) _ _ s;rw[aj (show ¬((Value.ref a==Value.none)=true) from aH)]
  show wpAny _ _ (field (.ref it) 1 >>= _) _ _ s;refine cj (wpAny_field H b (x:=.int i 0) rfl ?_);show wpAny _ _ (seqItems? (.ref a) >>= _) _ _ s;refine cj (wpAny_seqItems c f ?_);simp only[aB,g];refine cj (wpAny_rule (cj (wpAny_setField H b (by simp) ?_)))
  show wpAny _ _ (newExc (.type "StopIteration") [] >>= _) _ _ _;refine cj ?_;simp only[newExc,newTuple];refine cj (wpAny_newObj_type ?_ (by size_fits))
  refine cj (m:=firstArgMember _ _) (wpAny_of_eq (a:=Value.none) (by first|rfl|(simp only[firstArgMember];rfl)) ?_);refine wpAny_newObj_type ?_ (by size_fits)
  simp only[raiseNew];refine cj (wpAny_handled ?_)
  first|rw[show A.in1.handled=none from d]|rw[d]
  refine cj (cn (wpAny_throw ?_));exact j _ _ (((Heap.SameBut.update ..).extBut.push _).push _) ⟨_,aD _ rfl,rfl⟩
def OH (j:A.handled=none)(c:a≠it):Draws prog w A it [it,a] items.size (λi v=>items[i]? =some v) (λi h=>jR k h it a i/\yr k h a items) where
 live:=λ_ _ S=>let ⟨o,g,_⟩:=S.1.ob;⟨o,g⟩
 frame:=λ_ _ _ S d=>⟨S.1.to λo e=>d it (by simp) o e,S.2.to λo e=>d a (by simp) o e⟩
 item:=λi s Q E f S l=>GZ S.1 S.2 (x:=items[i]) (by simp[f]) λp b H=>l _ p s.toks (by simp[f]) ⟨b,S.2.to λo e=>H.extBut a o c e⟩ H
 done:=λs Q E S n=>TF j S.1 S.2 (by simp) n
end
section
variable {s:Shared}
def _root_.L2.Inv.spun {T:Addr}(I:Inv X o6 σ H s)(k:∀b u,b∉fp->s.heap.get? b=some u->h'.get? b=some u)(j:∀b∈fp,w6 X o6 H b)(hT:s.heap.objs.size<=T)
  (new:qZ X.prog X.w (upd H T o) h' T o):Inv X o6 σ (upd H T o) { s with heap:=h',toks:=t' }:=by
 have i:H T=none:=I.hok.fresh hT;have lt:∀b u,s.heap.get? b=some u->b≠T:=λb u e=>aO (aJ (aM e) hT);have N:∀b u,H b=some u->b∉fp:=λb u e z=>by rw[(j b z).1]at e;cases e
 refine I.step (g':=s.gens) (d':=s.drawn) (ch:=fp) (λb a=>let ⟨_,y,_,g,t,f⟩:=j b a;⟨g,y,t,f⟩) (λb o _ _ h e _=>k b o h e) (λb o _ _ h e _=>⟨o.slots,k b o h e⟩)
  (λb o _ e n=>by rw[qx (lt b o e)];exact n) (λb o h e=>⟨o,k b o h e⟩) (λb x e=>by rw[qx (wq e i)];exact e) (λb u x e=>by rw[qx (wq e i)];exact e)
  (λb ps e=>⟨#[],by rw[qx (wq e i),e];simp⟩) (λm l=>?_) (λb u e=>?_) I.bare
 ·obtain⟨o,E,p,d,r⟩:=l
  exact⟨o,E,p,k _ o (λz=>(j _ z).2.1 rfl) d,r⟩
 ·by_cases a:b=T
  ·subst a;rw[jY]at e;cases e;exact new
  ·rw[qx a]at e
   refine(I.hok b u e).stay (λc v h q=>k c v ?_ q) (λc q=>by rw[qx (wq q i)];exact q) λc x q=>by rw[qx (wq q i)];exact q
   rcases h with z|z
   ·rw[z];exact N b u e
   ·exact N c _ z
def _root_.L2.Inv.spun0 (I:Inv X o6 σ H s)(k:∀b u,b∉fp->s.heap.get? b=some u->h'.get? b=some u)(i:∀b∈fp,w6 X o6 H b):Inv X o6 σ H { s with heap:=h',toks:=t' }:=by
 have N:∀b u,H b=some u->b∉fp:=λb u e z=>by rw[(i b z).1]at e;cases e
 refine I.step (g':=s.gens) (d':=s.drawn) (ch:=fp) (λb d=>let ⟨_,t,_,g,l,f⟩:=i b d;⟨g,t,l,f⟩) (λb o _ _ h e _=>k b o h e) (λb o _ _ h e _=>⟨o.slots,k b o h e⟩)
  (λb o _ e n=>n) (λb o h e=>⟨o,k b o h e⟩) (λb x e=>e) (λb u x e=>e) (λb ps e=>⟨#[],by rw[e];simp⟩) (λm j=>?_) (λb u e=>?_) I.bare
 ·obtain⟨o,E,p,a,r⟩:=j
  exact⟨o,E,p,k _ o (λz=>(i _ z).2.1 rfl) a,r⟩
 ·refine(I.hok b u e).stay (λc v h q=>k c v ?_ q) (λc q=>q) λc x q=>q
  rcases h with z|z
  ·rw[z];exact N b u e
  ·exact N c _ z
def _root_.L2.Inv.sq {k:Bool}(I:Inv X o6 σ H s)(h:wL k X.K H a xs):∃i:bS,Vals xs i/\yr k s.heap a i.toArray/\xs.length<=sizeLine:=by
 cases k with|true=>obtain⟨i,r,p,z⟩:=I.list h;exact⟨i,r,p.isList,z⟩|false=>obtain⟨i,r,p,z⟩:=I.tuple h;exact⟨i,r,(show s.heap.IsTuple a i.toArray from p),z⟩
def _root_.L2.Inv.sq_inj {k:Bool}(I:Inv X o6 σ H s)(h:wL k X.K H a xs)(b:wL k X.K H a ys):xs=ys:=by
 cases k with|true=>exact I.list_inj h b|false=>exact I.tuple_inj h b
end
def Rm (k:Bool)(K:Frag)(a:Addr):It:=
 ⟨λi H=>∃X x,wL k K H a X/\X[i]? =some x,λi H x h=>∃p y,(∀X,wL k K H a X->X[i]? =some y)/\H p=none/\x=.ref p/\h=upd H p (.tup [.int i,y]),λi H=>∃X,wL k K H a X/\X.length=i⟩
def DT {K:Frag}(k:Bool)(a n it:Addr):Turn P w K (.Tuple oO kk oG) (Rm k K a) [n,it] n (λi h=>(∃old,IsEnum h n it i old)/\jR k h it a i/\n≠it) where
 mem:=by simp
 obj:=λi h st b f=>by
  obtain⟨⟨old,he⟩,g,_⟩:=st;rcases cw.mp f with rfl|f
  ·exact⟨_,he,λv z=>nomatch z⟩
  ·rw[cz.mp f]
   obtain⟨o,S,_,hd⟩:=g.ob;exact⟨o,S,λv z=>by rw[hd]at z;cases z⟩
 keep:=λi h h' ⟨⟨old,he⟩,g,ne⟩ kp=>⟨⟨old,kp n (by simp) _ he⟩,g.to λo r=>kp it (by simp) o r,ne⟩
 item:=by
  intro X hP hw hK hc i o6 s σ H E I hf st Y;subst hP hw hK;obtain⟨⟨old,he⟩,g,ne⟩:=st;obtain⟨xs,x,D,C⟩:=Y;obtain⟨d,J,t,hz⟩:=I.sq D;obtain⟨u,hu,ru⟩:=J.get C;have U:i<d.toArray.size:=by simpa using (cu.mp hu).1
  obtain⟨oa,j,hca,na,e⟩:=t.ob;have A:a≠it:=λz=>by obtain⟨oi,c,hci,p⟩:=g.ob;rw[<- z,j]at c;cases c;rw[p]at e;cases e
  have ane:n≠a:=λz=>by have B:s.heap.get? a=_:=z ▸ he;rw[j]at B;cases B;cases e
  refine wpAny_pyNext_enum_itemD (OH (k:=k) (items:=d.toArray) (I.ok.hd hc) A) he ⟨g,t⟩ U ne (by simp[ne,ane]) λy h1 T M S Q hT hsz hk=>?_
  have ey:y=u:=by
   have:d[i]? =some y:=by simpa using M
   rw[hu]at this;exact(aC this).symm
  subst ey;refine⟨_,rfl,wpAny_letOwnedTupleGo_enum S λh2 Z l=>?_⟩;have L:n<s.heap.objs.size:=aM he;have hT2:h2.get? s.heap.objs.size=some { cls:=.type "tuple",data:=.seq #[.int i T,y] }:=l.extBut _ _ (ne_of_gt L) hT;refine⟨.ref s.heap.objs.size,upd H s.heap.objs.size (.tup [.int i,x]),?_,rfl,⟨s.heap.objs.size,x,λys M=>by rw[I.sq_inj M D];exact C,I.hok.fresh (ao _),rfl,rfl⟩,⟨⟨_,by simpa using Z⟩,?_,ne⟩,λb f=>?_⟩
  ·refine I.spun (fp:=[n,it]) (t':=T+1) (λb o f r=>?_) hf (ao _) ?_
   ·exact l.extBut _ _ (λz=>f (by simp[z])) (hk b o (λz=>f (by simp[z])) (λz=>f (by simp[z])) r)
   ·exact⟨by show 2<=sizeLine;decide,[.int i T,y],.cons ⟨T,rfl⟩ (.cons ru .nil),_,hT2,⟨rfl,rfl⟩,0,rfl⟩
  ·exact Q.1.to λo r=>l.extBut _ _ (λz=>ne z.symm) r
  ·have bn:b≠s.heap.objs.size:=λz=>by
    rcases cw.mp f with q|q
    ·exact absurd L (by rw[<- q,z];exact aT _)
    ·obtain⟨oi,c,_⟩:=g.ob
     exact absurd (aM c) (by rw[<- cz.mp q,z];exact aT _)
   show upd H s.heap.objs.size _ b=none;rw[qx bn];exact(hf b f).1
 done:=by
  intro X hP hw hK hc i o6 s σ H E I hf st Y;subst hP hw hK;obtain⟨⟨old,he⟩,g,ne⟩:=st;obtain⟨xs,D,C⟩:=Y;obtain⟨d,J,t,hz⟩:=I.sq D;have en':d.toArray.size=i:=by rw[aI,<- J.length];exact C
  obtain⟨oa,j,hca,na,e⟩:=t.ob;have A:a≠it:=λz=>by obtain⟨oi,c,hci,p⟩:=g.ob;rw[<- z,j]at c;cases c;rw[p]at e;cases e
  refine wpAny_pyNext_enum_endD (OH (k:=k) (items:=d.toArray) (I.ok.hd hc) A) he ⟨by rw[en'];exact g,t⟩ λh1 N=>⟨rfl,?_⟩
  exact I.spun0 (fp:=[n,it]) (t':=s.toks) (λb o f r=>N b o (λz=>f (by simp[z])) r) hf
 self:=λ_ _ _ _ _ ⟨⟨_,he⟩,_⟩ h=>wpAny_pyIter_enum he h
open AutoSeq1 (wpAny_loadPart')
abbrev Ve (h:Heap)(k:Bool)(a:Addr):Heap:=h.push { cls:=.type (JX k),data:=.fields #[.ref a,.int 0 0] }
abbrev Lv (h:Heap)(k:Bool)(a:Addr):Heap:=(Ve h k a).push { cls:=.type "enumerate",data:=.fields #[.none,.bool false,.ref h.objs.size,rawInt 0,.none,.none] }
set_option tactic.hygienic true in
def F4 (a:Addr)(i:Array Value)(n:Nat)(D:cf)(S:Array (Option Value)):
  Meets (Builtin.«enumerate.__new__» ⟨[.type "enumerate",.ref a],[]⟩) (λ_ R s=>s.heap.get? a=some { cls:=.type "tuple",dict:=D,data:=.seq i n,slots:=S }/\R (.ok (.ret (.ref (Ve s.heap false a).objs.size))) { s with heap:=Lv s.heap false a }):=
 .of_wp λP w A R s h=>by
  obtain⟨p,g,d,t,o⟩:=s;obtain⟨H,h⟩:=h;have b:=sub_enumerate;have hT:Heap.IsTuple (Shared.heap ⟨p,g,d,t,o⟩) a i:=⟨_,H,rfl,n,rfl⟩
  wp_walk using wpAny_loadPart' H
  refine wpAny_stack_any λe=>cn ?_;split
  ·rename_i c _ _ _ _ _
   cases (c==Value.type "enumerate")<;>(wp_walk using wpAny_loadPart' H,wpAny_pyIter_tuple hT;exact⟨_,rfl,h⟩)
  ·wp_walk using wpAny_loadPart' H,wpAny_pyIter_tuple hT
   exact⟨_,rfl,h⟩
section
variable {prog:Program}{A:Around}{s:Shared}
def DJ {k:Bool}{i:Array Value}(l:yr k s.heap a i)
  (h:∀h',IsEnum h' (s.heap.objs.size+1) s.heap.objs.size 0 .none->jR k h' s.heap.objs.size a 0->(∀b o,s.heap.get? b=some o->h'.get? b=some o)->Q (.ref (s.heap.objs.size+1)) { s with heap:=h' }):
  wpAny (model prog w) A (call (.type "enumerate") [.ref a]) Q E s:=by
 cases k with
 |true=>exact call_enumerate_list l λh' g f _ e=>h h' g f e|false=>
  obtain⟨⟨c,q,D,S⟩,d,H,n,p⟩:=(show s.heap.IsTuple a i from l)
  replace H:c=.type "tuple":=H
  replace p:D=.seq i n:=p
  subst H p;refine callType_new F.called_enumerate (by decide) (F.typeCall_enumerate_1 _) (F.newCall_enumerate_1 _) (λobj=>F.args_object_init_2 obj _) F.entry_enumerate_new (F4 a i n q S) ⟨d,?_⟩
  have z:(Ve s.heap false a).objs.size=s.heap.objs.size+1:=bp ..;have j:IsEnum (Lv s.heap false a) (Ve s.heap false a).objs.size s.heap.objs.size 0 .none:=aD _ rfl;show _/\_;rw[z]at j ⊢;exact⟨⟨_,j,rfl⟩,h _ j (.mk ⟨_,ag _ (aD _ rfl),rfl,rfl⟩) λb o x=>ag _ (ag _ x)⟩
end
section
variable {a b:Expr}{m:Ev}
def fQ (K:Frag)(t:TA):TI:=λa H R=>t a H λv h=>∃p k x,v=[.ref p]/\wL k K h p x/\R (Rm k K p) h
def boot_enumerate:bootBuiltins "enumerate"=some (.type "enumerate"):=by rfl
def boot_zip:bootBuiltins "zip"=some (.type "zip"):=by rfl
def AI {t:TA}(l:Gl X "enumerate")(A:X.mg "enumerate"=none)(o:PA X [a] t)(g:starEach [a] X.env=[(false,eval a X.env)]):
  PI X (.Tuple oO kk oG) (.Call (.Name "enumerate" p) [a] [] o7) (fQ X.K t):=by
 intro P s y H R I h;refine Call_ (Qu I l A boot_enumerate (PyProof.Rows.callWith_type1 (zU (o o7 P s y H _ I h) λU S ⟨D,B,i,d,Q⟩=>?_) g rfl));obtain⟨p,k,C,rfl,j,q⟩:=Q;obtain⟨u,rfl,r⟩:=d.one;cases r;obtain⟨f,w,sq,x⟩:=i.sq j;refine DJ sq λJ e v E=>wpAny_pyIter_enum e ?_;refine⟨S.heap.objs.size+1,[S.heap.objs.size+1,S.heap.objs.size],_,_,B,rfl,i.kept (t':=S.toks) E,DT k p _ _,⟨⟨_,by simpa using e⟩,v,Nat.succ_ne_self _⟩,λb n=>?_,q⟩
 have c:S.heap.objs.size<=b:=by
  rcases cw.mp n with z|z
  ·rw[z];exact Nat.le_succ _
  ·rw[cz.mp z];exact ao _
 exact i.fpOk c (i.hok.fresh c)
def atEnd (w:List W)(i:Nat)(f:W->W):Option (Option W):=match w[i]? with|some x=>some (some (f x))|none=>if w.length=i then some none else none
def yC (w:W)(n:Nat):jA:=⟨λA i=>match zI w A with|some a=>atEnd a i λx=>.tup [.int i,x]|none=>none,n⟩
def Jd (w:W):Bool:=match w with|.tup _=>false|_=>true
def GL {K:Frag}{A:Hx}{w:W}{i:List W}(S:zL K φ A H)(q:RV K φ H w v)(e:zI w A=some i):∃p Y,v=.ref p/\wL (Jd w) K H p Y/\zF K φ H i Y:=by
 cases w with
 |tup u=>cases e;obtain⟨a,j,E,t,r⟩:=q;exact⟨a,j,E,t,r⟩|ref n=>
  obtain⟨a,E,f⟩:=q;unfold zI at e;dsimp only at e;cases c:A[n]? with
  |none=>rw[c]at e;cases e|some o=>
   rw[c]at e;obtain⟨d,b,r⟩:=S.ob n o c;rw[f]at b;cases b;cases o with|lst x=>cases e;obtain⟨y,g,h⟩:=r;exact⟨a,y,E,q9.of g,h⟩|ro x=>cases e;obtain⟨y,g,h⟩:=r;exact⟨a,y,E,g.sq,h⟩|dct x=>cases e|td _=>cases e|tr _=>cases e|tab _ _=>cases e
 |non=>cases e|bl _=>cases e|clo _ _ _=>cases e|xc _=>cases e|fn _=>cases e|int _=>cases e|str _=>cases e
def Uk {K:Frag}{a:bU}{A:Hx}{h:Hp}{w:W}{b:List W}{p:Addr}(q:RV K φ H w (.ref p))(l:QS K φ H a h)(S:zL K a A h)(E:zI w A=some b):∃y,wL (Jd w) K h p y/\zF K a h b y:=by obtain⟨P,Y,e,d,c⟩:=GL S (RV.monoW l q) E;cases e;exact⟨Y,d,c⟩
def fR {K:Frag}{w:W}{p:Addr}(q:RV K φ H w (.ref p)):Qb K φ H (yC w n) (Rm (Jd w) K p):=λi a g D L S=>by
 unfold yC;dsimp only;cases es:zI w D with
 |none=>exact⟨λ_ z=>(by cases z),λz=>(by cases z)⟩|some l=>
  dsimp only;obtain⟨Y,j,o⟩:=Uk q L S es;unfold atEnd;cases E:l[i]? with
  |none=>
   dsimp only
   by_cases h:l.length=i
   ·rw[ai h]
    exact⟨λ_ z=>(by cases z),λ_=>⟨Y,j,by rw[<- o.length];exact h⟩⟩
   ·rw[aj h]
    exact⟨λ_ z=>(by cases z),λz=>(by cases z)⟩
  |some x=>
   dsimp only;refine⟨λu z=>?_,λz=>(by cases z)⟩
   cases z;obtain⟨y,e,d⟩:=o.get E;refine⟨⟨Y,y,j,e⟩,λX I ⟨t,f,b,r,B,c⟩=>?_⟩;subst B c
   have:=b Y j
   rw[e]at this;cases this;obtain⟨C,a2,A⟩:=JP S r (.cons (w:=.int i) (v:=.int i) rfl (.one d));exact⟨C,a2,A⟩
def Zf (m:Ev):Ei:=λb A=>(m b A).bind λw a=>match zI w a with|some c=>.ok (yC w c.length) a|none=>.bad
end
section
variable {prog:Program}{A:Around}{s:Shared}{z TI TO i1 i2 l1 l2:Addr}{n1 n2:Nat}{c1 c2:Bool}{xs ys:Array Value}{x y a b:Value}
def AW (D:ZipApart z TI TO i1 i2 l1 l2)(h:IsZip s.heap z TI TO .none)(I:IsPair s.heap TI (.ref i1) (.ref i2))(u:IsPair s.heap TO a b)
  (g1:jR c1 s.heap i1 l1 n1)(g2:jR c2 s.heap i2 l2 n2)(s1:yr c1 s.heap l1 xs)(s2:yr c2 s.heap l2 ys)(U:xs[n1]? =some x)(P:ys[n2]? =some y)
  (hQ:∀h',IsZip h' z TI TO (rawInt s.heap.objs.size)->IsPair h' TI (.ref i1) (.ref i2)->IsPair h' TO x y->jR c1 h' i1 l1 (n1+1)->jR c2 h' i2 l2 (n2+1)->IsPair h' s.heap.objs.size x y->
   (∀c o,c≠z->c≠TO->c≠i1->c≠i2->s.heap.get? c=some o->h'.get? c=some o)->Q (.ref s.heap.objs.size) { s with heap:=h' }):
  wpAny (model prog w) A (Builtin.«zip.__next__» ⟨[.ref z],[]⟩) (λfin s'=>∃v,fin=.done (.ret v)/\Q v s') E s:=by
 show wpAny _ _ (field (.ref z) 2 >>= _) _ _ _;refine cj (wpAny_field h rfl (x:=.bool false) rfl ?_);show wpAny _ _ (field (.ref z) 3 >>= _) _ _ _;refine cj (wpAny_field h rfl (x:=.ref TI) rfl (cj (wpAny_seqItems I rfl ?_)));show wpAny _ _ (Builtin.SmallTypes.ownedTupleIsFree (.ref z) >>= _) _ _ _;refine cj ?_;unfold Builtin.SmallTypes.ownedTupleIsFree;refine cj (wpAny_field h rfl (x:=.none) rfl (cn ?_));simp only[if_true];refine cj (wpAny_rule (cj (wpAny_field h rfl (x:=.ref TO) rfl ?_)));refine cj (wpAny_setField_rec h (by simp) λha p sa=>?_);replace p:IsZip ha z TI TO .ellipsis:=p
 refine cj ?_;simp only[List.zipIdx_cons,List.zipIdx_nil,forIn_cons,forIn_nil];refine cj (cj (wpAny_onRaise ?_));show wpAny _ _ (Builtin.SmallTypes.nextOf (.ref i1) >>= _) _ _ _;refine cj (GZ (g1.to λo e=>sa.extBut _ _ D.i1z e) (s1.to λo e=>sa.extBut _ _ D.l1z e) U λY gb j=>cn ?_);have tb:IsPair Y TO a b:=j.extBut _ _ D.TOi1 (sa.extBut _ _ D.TOz u);refine cj (wpAny_seqItems tb rfl (cj (wpAny_updateSeq_pair tb λN T sc=>cj (wpAny_letGo (cn ?_)))));replace T:IsPair N TO x b:=T;refine cj (cj (wpAny_onRaise ?_));show wpAny _ _ (Builtin.SmallTypes.nextOf (.ref i2) >>= _) _ _ _;have up:∀c o,c≠z->c≠i1->c≠TO->s.heap.get? c=some o->N.get? c=some o:=λc o f d g e=>sc.extBut _ _ g (j.extBut _ _ d (sa.extBut _ _ f e));refine cj (GZ (g2.to λo e=>up _ o D.i2z D.i12.symm D.TOi2.symm e) (s2.to λo e=>up _ o D.l2z D.l2i1 D.l2TO e) P λhd gd sd=>cn ?_);have td:IsPair hd TO x b:=sd.extBut _ _ D.TOi2 T;refine cj (wpAny_seqItems td rfl (cj (wpAny_updateSeq_pair td λhe t S=>cj (wpAny_letGo (cn (cn ?_))))));replace t:IsPair he TO x y:=t;refine cj (wpAny_seqItems t rfl (cj (wpAny_newTuple ?_)));have H:he.objs.size=s.heap.objs.size:=by rw[S.1,sd.1,sc.1,j.1,sa.1]
 have C:IsZip he z TI TO .ellipsis:=S.extBut _ _ D.TOz.symm (sd.extBut _ _ D.i2z.symm (sc.extBut _ _ D.TOz.symm (j.extBut _ _ D.i1z.symm p)));have M:∀c o,c≠z->c≠TO->c≠i1->c≠i2->s.heap.get? c=some o->he.get? c=some o:=λc o f d g r e=>S.extBut _ _ d (sd.extBut _ _ r (up c o f g d e));have ge1:jR c1 he i1 l1 (n1+1):=((gb.to λo e=>sc.extBut _ _ D.TOi1.symm e).to λo e=>sd.extBut _ _ D.i12 e).to λo e=>S.extBut _ _ D.TOi1.symm e;have B:jR c2 he i2 l2 (n2+1):=gd.to λo e=>S.extBut _ _ D.TOi2.symm e;have Z:z<he.objs.size:=aM C;show wpAny _ _ (Builtin.SmallTypes.ownedTupleHandOut (.ref z) (.ref he.objs.size) >>= _) _ _ _;refine cj ?_;unfold Builtin.SmallTypes.ownedTupleHandOut;have zf:IsZip (he.push { cls:=.type "tuple",data:=.seq #[x,y] }) z TI TO .ellipsis:=ag _ C;refine cj (wpAny_setField_rec zf (by simp) λX n L=>?_);replace n:IsZip X z TI TO (rawInt he.objs.size):=n
 refine wpAny_setField_rec n (by simp) λl i K=>?_;replace i:IsZip l z TI TO (rawInt he.objs.size):=i
 have fin:∀c o,c≠z->he.get? c=some o->l.get? c=some o:=λc o q e=>K.extBut _ _ q (L.extBut _ _ q (ag _ e));have J:IsPair l he.objs.size x y:=K.extBut _ _ (ne_of_gt Z) (L.extBut _ _ (ne_of_gt Z) (aD _ rfl));rw[H]at i J;refine cn ⟨_,rfl,?_⟩;show Q (.ref he.objs.size) _;rw[H];exact hQ l i (fin _ _ D.TIz (M _ _ D.TIz D.TITO D.TIi1 D.TIi2 I)) (fin _ _ D.TOz t) (ge1.to λo e=>fin _ o D.i1z e) (B.to λo e=>fin _ o D.i2z e) J λc o f d g r e=>fin c o f (M c o f d g r e)
def fS {Q:Fin->Shared->Prop}(J:A.handled=none)(D:ZipApart z TI TO i1 i2 l1 l2)(i:IsZip s.heap z TI TO .none)(I:IsPair s.heap TI (.ref i1) (.ref i2))(v:IsPair s.heap TO a b)
  (g1:jR c1 s.heap i1 l1 n1)(g2:jR c2 s.heap i2 l2 n2)(s1:yr c1 s.heap l1 xs)(s2:yr c2 s.heap l2 ys)(j:xs[n1]? =none∨ys[n2]? =none)
  (K:∀h' e,(∀c o,c≠z->c≠TO->c≠i1->c≠i2->s.heap.get? c=some o->h'.get? c=some o)->(∃o,h'.get? e=some o/\o.cls=.type "StopIteration")->E (.ref e) { s with heap:=h' }):
  wpAny (model prog w) A (Builtin.«zip.__next__» ⟨[.ref z],[]⟩) Q E s:=by
 show wpAny _ _ (field (.ref z) 2 >>= _) _ _ _;refine cj (wpAny_field i rfl (x:=.bool false) rfl ?_);show wpAny _ _ (field (.ref z) 3 >>= _) _ _ _;refine cj (wpAny_field i rfl (x:=.ref TI) rfl (cj (wpAny_seqItems I rfl ?_)));show wpAny _ _ (Builtin.SmallTypes.ownedTupleIsFree (.ref z) >>= _) _ _ _;refine cj ?_;unfold Builtin.SmallTypes.ownedTupleIsFree;refine cj (wpAny_field i rfl (x:=.none) rfl (cn ?_));simp only[if_true];refine cj (wpAny_rule (cj (wpAny_field i rfl (x:=.ref TO) rfl ?_)));refine cj (wpAny_setField_rec i (by simp) λu Z U=>?_);replace Z:IsZip u z TI TO .ellipsis:=Z
 refine cj ?_;simp only[List.zipIdx_cons,List.zipIdx_nil,forIn_cons,forIn_nil];refine cj (cj (wpAny_onRaise ?_));show wpAny _ _ (Builtin.SmallTypes.nextOf (.ref i1) >>= _) _ _ _;have ga:=g1.to (h':=u) λo e=>U.extBut _ _ D.i1z e;have Y:=s1.to (h':=u) λo e=>U.extBut _ _ D.l1z e;cases p:xs[n1]? with
 |none=>
  refine cj (TF J ga Y p λt e S X=>?_);obtain⟨n,h,H⟩:=X;have B:IsZip t z TI TO .ellipsis:=S _ _ D.i1z.symm Z;have f:e≠z:=λq=>by subst q;rw[B]at h;cases h;simp at H
  exact wpAny_setField_rec B (by simp) λr _ P=>K r e (λc o d _ g _ q=>P.extBut _ _ d (S _ _ g (U.extBut _ _ d q))) ⟨n,P.extBut _ _ f h,H⟩
 |some x=>
  have M:ys[n2]? =none:=by
   rcases j with q|q
   ·rw[p]at q;cases q
   ·exact q
  refine cj (GZ ga Y p λt N S=>cn ?_);have tb:IsPair t TO a b:=S.extBut _ _ D.TOi1 (U.extBut _ _ D.TOz v);refine cj (wpAny_seqItems tb rfl (cj (wpAny_updateSeq_pair tb λr T P=>cj (wpAny_letGo (cn ?_)))));refine cj (cj (wpAny_onRaise ?_));show wpAny _ _ (Builtin.SmallTypes.nextOf (.ref i2) >>= _) _ _ _;have up:∀c o,c≠z->c≠i1->c≠TO->s.heap.get? c=some o->r.get? c=some o:=λc o d l g e=>P.extBut _ _ g (S.extBut _ _ l (U.extBut _ _ d e));refine cj (TF J (g2.to λo e=>up _ o D.i2z D.i12.symm D.TOi2.symm e) (s2.to λo e=>up _ o D.l2z D.l2i1 D.l2TO e) M λhd e sd X=>?_);obtain⟨n,h,H⟩:=X;have y:IsZip hd z TI TO .ellipsis:=sd _ _ D.i2z.symm (P.extBut _ _ D.TOz.symm (S.extBut _ _ D.i1z.symm Z));have f:e≠z:=λq=>by subst q;rw[y]at h;cases h;simp at H
  exact wpAny_setField_rec y (by simp) λhf _ C=>K hf e (λc o d l g L q=>C.extBut _ _ d (sd _ _ L (up c o d g l q))) ⟨n,C.extBut _ _ f h,H⟩
def Av {Q:Option Value->Shared->Prop}(D:ZipApart z TI TO i1 i2 l1 l2)(d:IsZip s.heap z TI TO .none)(H:IsPair s.heap TI (.ref i1) (.ref i2))(h:IsPair s.heap TO a b)
  (v:jR c1 s.heap i1 l1 n1)(u:jR c2 s.heap i2 l2 n2)(t:yr c1 s.heap l1 xs)(S:yr c2 s.heap l2 ys)(p:xs[n1]? =some x)(n:ys[n2]? =some y)
  (r:∀h',IsZip h' z TI TO (rawInt s.heap.objs.size)->IsPair h' TI (.ref i1) (.ref i2)->IsPair h' TO x y->jR c1 h' i1 l1 (n1+1)->jR c2 h' i2 l2 (n2+1)->IsPair h' s.heap.objs.size x y->
   (∀c o,c≠z->c≠TO->c≠i1->c≠i2->s.heap.get? c=some o->h'.get? c=some o)->Q (some (.ref s.heap.objs.size)) { s with heap:=h' }):wpAny (model prog w) A (pyNext (.ref z)) Q E s:=by
 have hT:s.TypeIs (.ref z) "zip":=⟨_,d,rfl⟩;unfold pyNext;exact cj (wpAny_attempt (wpAny_callSpecial?_slot (name:=Str.ofString "__next__") hT F.slot_zip_next (wpAny_call_entry F.slot_zip_next hT F.entry_zip_next
  (AW D d H h v u t S p n λh' l j i g f e q=>cn (r h' l j i g f e q)) (F.args_zip_next_1 _))))
def fT {Q:Option Value->Shared->Prop}(i:A.handled=none)(D:ZipApart z TI TO i1 i2 l1 l2)(d:IsZip s.heap z TI TO .none)(I:IsPair s.heap TI (.ref i1) (.ref i2))(H:IsPair s.heap TO a b)
  (r:jR c1 s.heap i1 l1 n1)(q:jR c2 s.heap i2 l2 n2)(n:yr c1 s.heap l1 xs)(S:yr c2 s.heap l2 ys)(h:xs[n1]? =none∨ys[n2]? =none)
  (l:∀h',(∀c o,c≠z->c≠TO->c≠i1->c≠i2->s.heap.get? c=some o->h'.get? c=some o)->Q none { s with heap:=h' }):wpAny (model prog w) A (pyNext (.ref z)) Q E s:=by
 have hT:s.TypeIs (.ref z) "zip":=⟨_,d,rfl⟩;unfold pyNext;refine cj (wpAny_attempt (wpAny_callSpecial?_slot (name:=Str.ofString "__next__") hT F.slot_zip_next (wpAny_call_entry F.slot_zip_next hT F.entry_zip_next (fS i D d I H r q n S h λh' e g p=>?_) (F.args_zip_next_1 _))));obtain⟨o,f,j⟩:=p;exact cj (wpAny_isInstance (T := "StopIteration") (b:=true) ⟨o,f,j⟩ isSubtype_stop (cn (l _ g)))
end
abbrev X9 (h:Heap)(c1:Bool)(l:Addr):Heap:=h.push { cls:=.type (JX c1),data:=.fields #[.ref l,.int 0 0] }
abbrev Vd (h:Heap)(c1 c2:Bool)(L l:Addr):Heap:=(X9 h c1 L).push { cls:=.type (JX c2),data:=.fields #[.ref l,.int 0 0] }
abbrev X8 (h:Heap)(c1 c2:Bool)(l L:Addr):Heap:=(Vd h c1 c2 l L).push { cls:=.type "tuple",data:=.seq #[.ref h.objs.size,.ref (X9 h c1 l).objs.size] }
abbrev Vc (h:Heap)(c1 c2:Bool)(L l:Addr):Heap:=(X8 h c1 c2 L l).push { cls:=.type "tuple",data:=.seq #[.none,.none] }
abbrev Y3 (h:Heap)(c1 c2:Bool)(L l:Addr):Heap:=(Vc h c1 c2 L l).push { cls:=.type "zip",data:=.fields #[.none,.bool false,.bool false,.ref (Vd h c1 c2 L l).objs.size,.ref (X8 h c1 c2 L l).objs.size] }
def E7 (c1 c2:Bool)(l L:Addr)(x y:Array Value):
  Meets (Builtin.«zip.__new__» ⟨[.type "zip",.ref l,.ref L],[]⟩) (λ_ R s=>yr c1 s.heap l x/\yr c2 s.heap L y/\R (.ok (.ret (.ref (Vc s.heap c1 c2 l L).objs.size))) { s with heap:=Y3 s.heap c1 c2 l L }):=
 .of_wp λP w A R s h=>by
  obtain⟨p,g,d,t,a⟩:=s;obtain⟨Q,q,h⟩:=h;have H:=sub_zip;have b:yr c1 (Shared.heap ⟨p,g,d,t,a⟩) l x:=Q;have K:yr c2 (Shared.heap ⟨p.push { cls:=.type (JX c1),data:=.fields #[.ref l,.int 0 0] },g,d,t,a⟩) L y:=q.to λo e=>ag _ e
  wp_walk using OX b,OX K
  exact⟨_,rfl,h⟩
section
variable {prog:Program}{A:Around}{s:Shared}{c1 c2:Bool}{l1 l2:Addr}{xs ys:Array Value}
def BB (g:yr c1 s.heap l1 xs)(S:yr c2 s.heap l2 ys)
  (h:∀h' n,n=s.heap.objs.size->IsZip h' (n+4) (n+2) (n+3) .none->IsPair h' (n+2) (.ref n) (.ref (n+1))->IsPair h' (n+3) .none .none->jR c1 h' n l1 0->jR c2 h' (n+1) l2 0->
   (∀c o,s.heap.get? c=some o->h'.get? c=some o)->Q (.ref (n+4)) { s with heap:=h' }):wpAny (model prog w) A (call (.type "zip") [.ref l1,.ref l2]) Q E s:=by
 refine callType_new F.called_zip (by decide) (F.typeCall_zip_2 _ _) (F.newCall_zip_2 _ _) (λobj=>F.args_object_init_3 obj _ _) F.entry_zip_new (E7 c1 c2 l1 l2 xs ys) ⟨g,S,?_⟩
 have a:(X9 s.heap c1 l1).objs.size=s.heap.objs.size+1:=bp ..;have Z:(Vd s.heap c1 c2 l1 l2).objs.size=s.heap.objs.size+2:=by rw[bp,a]
 have z:(X8 s.heap c1 c2 l1 l2).objs.size=s.heap.objs.size+3:=by rw[bp,Z]
 have b:(Vc s.heap c1 c2 l1 l2).objs.size=s.heap.objs.size+4:=by rw[bp,z]
 have e:(Y3 s.heap c1 c2 l1 l2).get? (Vc s.heap c1 c2 l1 l2).objs.size=some _:=aD _ rfl;have f:(Y3 s.heap c1 c2 l1 l2).get? (X8 s.heap c1 c2 l1 l2).objs.size=some _:=ag _ (aD _ rfl);have y:(Y3 s.heap c1 c2 l1 l2).get? (Vd s.heap c1 c2 l1 l2).objs.size=some _:=ag _ (ag _ (aD _ rfl));have Y:(Y3 s.heap c1 c2 l1 l2).get? (X9 s.heap c1 l1).objs.size=some _:=ag _ (ag _ (ag _ (aD _ rfl)));have d:(Y3 s.heap c1 c2 l1 l2).get? s.heap.objs.size=some _:=ag _ (ag _ (ag _ (ag _ (aD _ rfl))));show _/\_;rw[Z,z,b]at e;rw[a,Z]at y;rw[z]at f;rw[a]at Y;rw[b];exact⟨⟨_,e,rfl⟩,h _ _ rfl e y f (.mk ⟨_,d,rfl,rfl⟩) (.mk ⟨_,Y,rfl,rfl⟩) λc o q=>
  ag _ (ag _ (ag _ (ag _ (ag _ q))))⟩
end
def Ra (c1 c2:Bool)(K:Frag)(p q:Addr):It:=
 ⟨λi H=>∃X Y x y,wL c1 K H p X/\wL c2 K H q Y/\X[i]? =some x/\Y[i]? =some y,
  λi H v h=>∃t x y,(∀X,wL c1 K H p X->X[i]? =some x)/\(∀Y,wL c2 K H q Y->Y[i]? =some y)/\H t=none/\v=.ref t/\h=upd H t (.tup [x,y]),
  λi H=>∃X Y,wL c1 K H p X/\wL c2 K H q Y/\(X[i]? =none∨Y[i]? =none)⟩
def C1 {K:Frag}(c1 c2:Bool)(p q z TI TO t r:Addr)(D:ZipApart z TI TO t r p q):
  Turn P w K (.Tuple oO kk oG) (Ra c1 c2 K p q) [z,TI,TO,t,r] z (λi h=>IsZip h z TI TO .none/\IsPair h TI (.ref t) (.ref r)/\(∃a b,IsPair h TO a b)/\jR c1 h t p i/\jR c2 h r q i) where
 mem:=by simp
 obj:=λi h st b d=>by
  obtain⟨j,g,⟨N,M,f⟩,g1,g2⟩:=st;simp only[mem_cons,bG,or_false]at d;rcases d with rfl|rfl|rfl|rfl|rfl
  ·exact⟨_,j,λv e=>nomatch e⟩
  ·exact⟨_,g,λv e=>nomatch e⟩
  ·exact⟨_,f,λv e=>nomatch e⟩
  ·obtain⟨o,B,_,hd⟩:=g1.ob;exact⟨o,B,λv e=>by rw[hd]at e;cases e⟩
  ·obtain⟨o,B,_,hd⟩:=g2.ob;exact⟨o,B,λv e=>by rw[hd]at e;cases e⟩
 keep:=λi h h' ⟨j,g,⟨N,M,f⟩,g1,g2⟩ k=>⟨k z (by simp) _ j,k TI (by simp) _ g,⟨N,M,k TO (by simp) _ f⟩,g1.to λo e=>k t (by simp) o e,g2.to λo e=>k r (by simp) o e⟩
 item:=by
  intro X hP hw hK hc i o6 s σ H E I hf st hg;subst hP hw hK;obtain⟨j,g,⟨N,M,f⟩,g1,g2⟩:=st;obtain⟨xs,ys,x,y,h1,h2,ex,ey⟩:=hg;obtain⟨n,r1,u,_⟩:=I.sq h1;obtain⟨l,Z,S,_⟩:=I.sq h2;obtain⟨Q,eu1,Y⟩:=r1.get ex;obtain⟨U,eu2,T⟩:=Z.get ey;refine Av D j g f g1 g2 u S (x:=Q) (y:=U) (by simpa using eu1) (by simpa using eu2) λhh z1 z2 z3 z4 z5 z6 kp=>?_
  refine⟨_,rfl,wpAny_letOwnedTupleGo_zip z1 λhk zk J=>?_⟩;have lt:∀{c o},s.heap.get? c=some o->c≠s.heap.objs.size:=λe=>aO (aM e);have T2:IsPair hk s.heap.objs.size Q U:=J.extBut _ _ (lt j).symm z6;have fre:∀b∈[z,TI,TO,t,r],b≠s.heap.objs.size:=λb d=>by
   simp only[mem_cons,bG,or_false]at d;rcases d with rfl|rfl|rfl|rfl|rfl
   ·exact lt j
   ·exact lt g
   ·exact lt f
   ·obtain⟨o,B,_⟩:=g1.ob;exact lt B
   ·obtain⟨o,B,_⟩:=g2.ob;exact lt B
  refine⟨.ref s.heap.objs.size,upd H s.heap.objs.size (.tup [x,y]),?_,rfl,⟨s.heap.objs.size,x,y,λzs A=>by rw[I.sq_inj A h1];exact ex,λzs A=>by rw[I.sq_inj A h2];exact ey,I.hok.fresh (ao _),rfl,rfl⟩,
   ⟨zk,J.extBut _ _ D.TIz z2,⟨_,_,J.extBut _ _ D.TOz z3⟩,z4.to λo e=>J.extBut _ _ D.i1z e,z5.to λo e=>J.extBut _ _ D.i2z e⟩,λb d=>?_⟩
  ·refine I.spun (fp:=[z,TI,TO,t,r]) (t':=s.toks) (λb o d eo=>?_) hf (ao _) ?_
   ·exact J.extBut _ _ (λe=>d (by simp[e])) (kp b o (λe=>d (by simp[e])) (λe=>d (by simp[e])) (λe=>d (by simp[e])) (λe=>d (by simp[e])) eo)
   ·exact⟨by show 2<=sizeLine;decide,[Q,U],.cons Y (.cons T .nil),_,T2,⟨rfl,rfl⟩,0,rfl⟩
  ·show upd H s.heap.objs.size _ b=none
   rw[qx (fre b d)];exact(hf b d).1
 done:=by
  intro X hP hw hK hc i o6 s σ H E I hf st hg;subst hP hw hK;obtain⟨j,g,⟨N,M,f⟩,g1,g2⟩:=st;obtain⟨xs,ys,h1,h2,L⟩:=hg;obtain⟨n,r1,u,_⟩:=I.sq h1;obtain⟨l,Z,S,_⟩:=I.sq h2;have C:n.toArray[i]? =none∨l.toArray[i]? =none:=by
   rcases L with e|e
   ·exact .inl (by simpa using r1.none_of e)
   ·exact .inr (by simpa using Z.none_of e)
  exact fT (I.ok.hd hc) D j g f g1 g2 u S C λhh kp=>⟨rfl,I.spun0 (fp:=[z,TI,TO,t,r]) (t':=s.toks) (λb o d eo=>kp b o (λe=>d (by simp[e])) (λe=>d (by simp[e])) (λe=>d (by simp[e])) (λe=>d (by simp[e])) eo) hf⟩
 self:=λ_ _ _ _ _ st h=>wpAny_pyIter_zip st.1 h
section
variable {a b:Expr}{m:Ev}
def fU (K:Frag)(t:TA):TI:=λa H R=>t a H λv h=>∃p q c1 c2 x y,v=[.ref p,.ref q]/\wL c1 K h p x/\wL c2 K h q y/\R (Ra c1 c2 K p q) h
def fV {T:TA}(U:Gl X "zip")(hm:X.mg "zip"=none)(Y:PA X [a,b] T)(N:ji a [b] X)(P:wR o7 [b] X):
  PI X (.Tuple oO kk oG) (.Call (.Name "zip" p) [a,b] [] o7) (fU X.K T):=by
 intro o6 s σ H R I h;refine Call_ (Qu I U hm boot_zip (PyProof.Rows.callWith_type1 (zU (Y o7 o6 s σ H _ I h) λus s1 ⟨vs,H1,g,M,Q⟩=>?_) N P));obtain⟨p,q,c1,c2,xs,ys,rfl,h1,h2,hR⟩:=Q;obtain⟨u1,u2,rfl,o,r⟩:=M.two;cases o;cases r;obtain⟨w,J,d,_⟩:=g.sq h1;obtain⟨v,C,S,_⟩:=g.sq h2;obtain⟨op,u,_⟩:=d.ob;obtain⟨oq,t,_⟩:=S.ob;have L:p<s1.heap.objs.size:=aM u;have l:q<s1.heap.objs.size:=aM t;refine BB d S λh' n E z B A y Z kp=>wpAny_pyIter_zip z ?_;rw[<- E]at L l;have ne1:∀(i j:Nat),i≠j->n+i≠n+j:=λi j h e=>h (Nat.add_left_cancel e);have ne2:∀(c:Nat)(i:Nat),c<n->c≠n+i:=λc i h e=>absurd h (by rw[e];exact Nat.not_lt.mpr (le_add_right n i))
 have D:ZipApart (n+4) (n+2) (n+3) (n+0) (n+1) p q:=⟨ne1 2 4 (by decide),ne1 3 4 (by decide),ne1 0 4 (by decide),ne1 1 4 (by decide),ne1 2 3 (by decide),ne1 2 0 (by decide),ne1 2 1 (by decide),ne1 3 0 (by decide),ne1 3 1 (by decide),ne1 0 1 (by decide),
  ne2 p 4 L,ne2 p 3 L,ne2 p 0 L,ne2 p 1 L,ne2 q 4 l,ne2 q 3 l,ne2 q 0 l,ne2 q 1 l⟩
 refine⟨n+4,[n+4,n+2,n+3,n,n+1],_,_,H1,rfl,g.kept (t':=s1.toks) kp,C1 c1 c2 p q _ _ _ _ _ D,⟨z,B,⟨_,_,A⟩,y,Z⟩,λc x=>?_,hR⟩;have f:s1.heap.objs.size<=c:=by
  rw[<- E];simp only[mem_cons,bG,or_false]at x;rcases x with rfl|rfl|rfl|rfl|rfl
  ·exact le_add_right _ _
  ·exact le_add_right _ _
  ·exact le_add_right _ _
  ·exact ao _
  ·exact le_add_right _ _
 exact g.fpOk f (g.hok.fresh f)
def zip2:Option W->Option W->Option W
 |some x,some y=>some (.tup [x,y])|_,_=>none
def wc (w a:W)(n:Nat):jA:=⟨λA i=>match zI w A,zI a A with|some u,some v=>some (zip2 u[i]? v[i]?)|_,_=>none,n⟩
def fW {K:Frag}{w a:W}{p P:Addr}(q:RV K φ H w (.ref p))(Q:RV K φ H a (.ref P)):Qb K φ H (wc w a n) (Ra (Jd w) (Jd a) K p P):=λi b C A' M S=>by
 unfold wc;dsimp only;cases es:zI w A' with
 |none=>exact⟨λ_ z=>(by cases z),λz=>(by cases z)⟩|some U=>
  cases E:zI a A' with
  |none=>exact⟨λ_ z=>(by cases z),λz=>(by cases z)⟩|some vs=>
   dsimp only;obtain⟨J,L,N⟩:=Uk q M S es;obtain⟨Y,h,c⟩:=Uk Q M S E;have non:∀{U:List W}{J:List V},zF K b C U J->U[i]? =none->J[i]? =none:=λr e=>by rw[List.getElem?_eq_none_iff]at e ⊢;rw[<- r.length];exact e
   cases g:U[i]? with
   |none=>exact⟨λ_ z=>(by cases z),λ_=>⟨J,Y,L,h,.inl (non N g)⟩⟩|some x=>
    cases d:vs[i]? with
    |none=>exact⟨λ_ z=>(by cases z),λ_=>⟨J,Y,L,h,.inr (non c d)⟩⟩|some y=>
     refine⟨λu z=>?_,λz=>(by cases z)⟩
     cases z;obtain⟨j,f1,f2⟩:=N.get g;obtain⟨v,f,f4⟩:=c.get d;refine⟨⟨J,Y,j,v,L,h,f1,f⟩,λX H1 ⟨t,I,D,o,l,ht,ex,A⟩=>?_⟩;subst ex A;have Z:=o J L;have T:=l Y h;rw[f1]at Z;cases Z;rw[f]at T;cases T;obtain⟨a1,a2,B⟩:=JP S ht (.cons f2 (.one f4));exact⟨a1,a2,B⟩
def kI (m M:Ev):Ei:=λc A=>(m c A).bind λw d=>(M c d).bind λa b=>match zI w b,zI a b with|some u,some _=>.ok (wc w a u.length) b|_,_=>.bad
variable {K:Frag}{c:Expr}
def X5:Ev:=λ_ A=>.ok (.ref A.length) (A++[.dct []])
def X4:W->Option Key
 |.int i=>some (.inl i)|_=>none
noncomputable def ki (k:Key):List (Key×W)->Option W
 |[]=>none|(j,w)::r=>if j=k then some w else ki k r
theorem Uu (k:Key):∀{g:List (Key×W)}{u:List (Key×V)},u.map (·.1)=g.map (·.1)->zF K φ H (g.map (·.2)) (u.map (·.2))->
  (∀w,ki k g=some w->∃v,wa u k=some v/\RV K φ H w v)/\(ki k g=none->wa u k=none)
 |[],[],_,_=>⟨λw h=>(by cases h),λ_=>rfl⟩|[],_::_,h,_=>by simp at h|_::_,[],h,_=>by simp at h|(j,w)::g,(J,v)::u,h,r=>by
  simp only[aS,List.cons.injEq]at h;obtain⟨d,f,e,q,o⟩:=r;simp only[aS,List.cons.injEq]at e;obtain⟨rfl,rfl⟩:=e;have i:=Uu k h.2 o;have b:J=j:=h.1;subst b
  by_cases a:J=k
  ·refine⟨λc l=>⟨v,GQ a,?_⟩,λn=>?_⟩
   ·unfold ki at l;rw[ai a]at l;cases l;exact q
   ·unfold ki at n;rw[ai a]at n;cases n
  ·unfold ki
   rw[aj a,GP (p:=(J,v)) a];exact i
theorem zL.dct {A:Hx}{kvs:List (Key×W)}(S:zL K φ A H)(q:RV K φ H (.ref n) v)(e:A[n]? =some (.dct kvs)):∃p us,v=.ref p/\φ[n]? =some p/\H p=some (.dK us)/\us.map (·.1)=kvs.map (·.1)/\zF K φ H (kvs.map (·.2)) (us.map (·.2)):=by obtain⟨p,rfl,d⟩:=q;obtain⟨P,c,us,b,a,h⟩:=S.ob n _ e;rw[d]at c;cases c;exact⟨p,us,rfl,d,b,a,h⟩
def Sy:W->W->Hx->R W:=λd k A=>match d,X4 k with
 |.ref n,some k=>match A[n]? with
  |some (.dct kvs)=>match ki k kvs with|some w=>.ok w A|none=>.bad
  |_=>.bad
 |_,_=>.bad
def fX:V->List V->Hp->VK->Prop:=λx a H Q=>∃p u k d,x=.ref p/\a=[kV k,d]/\H p=some (.dK u)/\u.length<sizeLine/\(∀v,wa u k=some v->Q v H)/\(wa u k=none->Q d (upd H p (.dK (putK u k d))))
def DC:Ki X "dict.setdefault" fX:=by
 intro P s S H x T v Y Q I g i h;obtain⟨p,K,k,d,rfl,rfl,f,A,n,l⟩:=h;cases g;obtain⟨U,u,rfl,j,c⟩:=i.two;obtain⟨z,C,J,B,E⟩:=MD I.hok f;refine call_meetsIn PySem.F.slot_dict_setdefault E.typeIs PySem.F.entry_dict_setdefault (PySem.F.args_dict_setdefault_3 _ _ _) (kt_meets_setdefault (kQ X.prog X.w) p (T6 j) C u) ⟨J,E,by rw[<- B.length];exact z,λv o=>?_,λL N D t=>?_⟩
 ·have r:=B.val k
  rw[o]at r;cases e:wa K k with|none=>rw[e]at r;exact r.elim|some a=>rw[e]at r;exact⟨a,H,I.tok _,r,n a e⟩
 ·have r:=B.val k
  rw[L]at r;cases e:wa K k with
  |some a=>rw[e]at r;exact r.elim|none=>
   have b:(putK K k d).length<=sizeLine:=by have:=FW K k d;lia
   have M:∃q,N.get? p=some q:=let ⟨q,_,_,y,_⟩:=D;⟨q,y⟩
   exact⟨d,_,AG I (by rw[f];exact True.intro) t M (eG b C (B.put k c) D),c,l e⟩
def Vq (x:W)(A:Hx):Bool:=match x with
 |.ref n=>match A[n]? with|some (.dct _)=>true|_=>false
 |_=>false
def Q3:W->W->W->Hx->R W:=λd k v A=>match d,X4 k with
 |.ref n,some k=>match A[n]? with
  |some (.dct kvs)=>if kvs.length<zX then(match ki k kvs with|some w=>.ok w A|none=>.ok v (A.set n (.dct (kvs++[(k,v)])))) else .bad
  |_=>.bad
 |_,_=>.bad
def Wa (g:W->W->W->Hx->R W)(a b c:Ev):Ev:=λe A=>(a e A).bind λx f=>if Vq x f then(b e f).bind λy h=>(c e h).bind λz d=>g x y z d else .bad
def C3 {A:Hx}{w:W}(S:zL K φ A H)(q:RV K φ H w v)(e:Vq w A=true):Vg K "dict" v H:=by
 unfold Vq at e;cases w with
 |ref n=>
  dsimp only at e;cases E:A[n]? with
  |none=>rw[E]at e;cases e|some o=>cases o with|dct a=>obtain⟨p,u,rfl,_,h,_⟩:=S.dct q E;exact .inr (.inr (.inl ⟨rfl,.inl ⟨u,h⟩⟩))|_=>rw[E]at e;cases e
 |_=>cases e
end
def Rh (d:Addr)(o:Obj)(u:List (Key×V)):It:=
 ⟨λi H=>H d=some (.frz o (.dK u))/\i<u.length,λi H x h=>∃t p,u[i]? =some p/\H t=none/\x=.ref t/\h=upd H t (.tup [kV p.1,p.2]),λi H=>H d=some (.frz o (.dK u))/\u[i]? =none⟩
def fY {k:Key}(h:(kQ P w).is k u=true):RelV (kV k) u:=by
 rw[Er]at h;rcases ZU h with ⟨i,t,rfl,rfl⟩|⟨x,t,rfl,rfl⟩
 ·exact⟨t,rfl⟩
 ·exact⟨t,rfl⟩
theorem KV.at:∀{U:List (Key×V)}{v:List (Key×Value)}{i:Nat}{p:Key×V},KV U v->U[i]? =some p->∃u,v[i]? =some (p.1,u)/\RelV p.2 u
 |[],_,_,_,_,e=>by simp at e|q::U,_,0,p,.cons (b:=b) r t,e=>by simp at e;subst e;exact⟨b.2,by simp only[List.getElem?_cons_zero];rw[r.1],r.2⟩
 |q::U,_,i+1,p,.cons r t,e=>by
  obtain⟨u,H,h⟩:=KV.at (i:=i) (p:=p) t (by simpa using e)
  exact⟨u,by simpa using H,h⟩
section
variable {s:Shared}
def _root_.L2.Inv.frzD {d:Addr}{o:Obj}{u:List (Key×V)}{f:Nat}(I:Inv X o6 σ H s)(h:H d=some (.frz o (.dK u)))(p:∃E,o.data=.dict E f):∃vs,KV u vs/\s.heap.DictAt (kQ X.prog X.w) d vs f:=by
 obtain⟨a,z,x,vs,l,D⟩:=I.hok d _ h;obtain⟨g,v,e,n,t,c,r⟩:=D.dictAt;rw[a]at n;cases n;obtain⟨E,q⟩:=p;have b:=c;rw[q]at b;injection b with j i
 subst i;exact⟨vs,l,o,e,a,t,c,r⟩
end
def Bw:entryFor table "dict_itemiterator.__iter__"=some Builtin.«dict_keyiterator.__iter__»:=entryFor_alias (id' := "dict_keyiterator.__iter__") (by kernel_rfl)
 (by first|rfl|decide +kernel|(unfold String.splitOn;simp +decide [String.splitOnAux])) (by decide +kernel) (by kernel_rfl)
def Ee {K:Frag}(d Z:Addr)(o:Obj)(us:List (Key×V))(l:Nat)(j:∃T,o.data=.dict T l):
  Turn P w K (.Tuple oO kk oG) (Rh d o us) [Z] Z (λi h=>∃ok a,IsItemIter h Z d i us.length l ok a) where
 mem:=by simp
 obj:=λi h ⟨ok,a,U⟩ b c=>by
  rw[cz.mp c];exact⟨_,U,λv e=>nomatch e⟩
 keep:=λi h h' ⟨ok,a,U⟩ k=>⟨ok,a,k Z (by simp) _ U⟩
 item:=by
  intro X r hw t B i o6 s σ H E I hf U n;subst r hw t;obtain⟨ok,a,U⟩:=U;obtain⟨hd,g⟩:=n;obtain⟨vs,Y,D⟩:=I.frzD hd j;obtain⟨u,L,C⟩:=KV.at Y (i:=i) (p:=us[i]) (by simp[g])
  have S:IsItemIter s.heap Z d i vs.length l ok a:=by rw[<- Y.length];exact U
  refine wpAny_pyNext_items_item S D L λkey h1 y N hT M kp=>⟨_,rfl,wpAny_letOwnedTupleGo_items N λh2 q f=>?_⟩;have lt:Z<s.heap.objs.size:=aM U;have T2:h2.get? s.heap.objs.size=some { cls:=.type "tuple",data:=.seq #[key,u] }:=f.extBut _ _ (ne_of_gt lt) hT;refine⟨.ref s.heap.objs.size,upd H s.heap.objs.size (.tup [kV us[i].1,us[i].2]),?_,rfl,⟨s.heap.objs.size,us[i],by simp[g],I.hok.fresh (ao _),rfl,rfl⟩,⟨_,_,by rw[Y.length];exact q⟩,λb c=>?_⟩
  ·refine I.spun (fp:=[Z]) (t':=s.toks) (λb ob c x=>?_) hf (ao _) ?_
   ·exact f.extBut _ _ (λz=>c (by simp[z])) (kp b ob (λz=>c (by simp[z])) x)
   ·exact⟨by show 2<=sizeLine;decide,[key,u],.cons (fY y) (.cons C .nil),_,T2,⟨rfl,rfl⟩,0,rfl⟩
  ·show upd H s.heap.objs.size _ b=none
   have bn:b≠s.heap.objs.size:=λz=>by rw[cz.mp c]at z;exact absurd lt (by rw[z];exact aT _)
   rw[qx bn];exact(hf b c).1
 done:=by
  intro X r hw t B i o6 s σ H E I hf U n;subst r hw t;obtain⟨ok,a,U⟩:=U;obtain⟨hd,g⟩:=n;obtain⟨vs,Y,D⟩:=I.frzD hd j;have S:IsItemIter s.heap Z d i vs.length l ok a:=by rw[<- Y.length];exact U
  have hn:vs[i]? =none:=by rw[List.getElem?_eq_none_iff]at g ⊢;rw[<- Y.length];exact g
  exact wpAny_pyNext_items_end (I.ok.hd B) S D hn λh1 J=>⟨rfl,I.spun0 (fp:=[Z]) (t':=s.toks) (λb ob c x=>J b ob (λz=>c (by simp[z])) x) hf⟩
 self:=λA i s Q E ⟨ok,a,U⟩ h=>by have hT:s.TypeIs (.ref Z) "dict_itemiterator":=⟨_,U,rfl⟩;refine wpAny_pyIter_slot hT F.slot_dict_itemiterator_iter (wpAny_call_entry F.slot_dict_itemiterator_iter hT Bw ?_ (F.args_dict_itemiterator_iter_1 _));show wpAny _ _ (ret (.ref Z)) _ _ s;exact cn ⟨_,rfl,"dict_itemiterator",_,hT,F.slot_dict_itemiterator_next.lookup,h⟩
section
variable {a b:Expr}{m:Ev}
def fZ (td:TE):TI:=λa H R=>td a H λx h=>∃d u,x=.ref d/\h d=some (.dK u)/\∀o,R (Rh d o u) (upd h d (.frz o (.dK u)))
def CW {td:TE}(y:PE X a td)(i:attributeBase a "items" X.env (eval a X.env)=eval a X.env)(g:(oH.endLine==oD.line)=true):
  PI X (.Tuple oO kk oG) (.Call (.Attribute a "items" oH) [] [] oD) (fZ td):=by
 intro P s L H R I h;refine wpAny_Call_method0_late i g (zU (y P s L H _ I h) λv S ⟨x,Q,n,u,d,U,T,N,q⟩=>?_);subst T;cases u;obtain⟨z,f,M,C,K⟩:=MD n.hok N;obtain⟨o,l,p,c,J,t,r⟩:=id K;refine⟨"dict","dict.items",PySem.F.plainAttrs_dict,PySem.F.slot_dict_items,PySem.F.type_dict_items,K.typeIs,λb E=>by cases E;exact⟨o,c,J.2.1⟩,Calls.callWith_builtin rfl (PySem.evalArgs_none ?_)⟩
 refine call_meetsIn PySem.F.slot_dict_items K.typeIs PySem.F.entry_dict_items (PySem.F.args_dict_items_1 _) (meets_dict_items (kQ X.prog X.w) d f) ⟨⟨M,K⟩,?_⟩;have B:Inv X P L (upd Q d (.frz o (.dK U))) { S with heap:=S.heap,toks:=S.toks }:=n.write (x:=d) (e:=d) (o:=.frz o (.dK U)) (t':=S.toks) (h':=S.heap) (by rw[N];exact True.intro) (.inl rfl) (λ_ _ _ q=>q) ⟨o,c⟩ ⟨c,z,f,M,C,K⟩
 have j:Inv X P L (upd Q d (.frz o (.dK U))) { S with heap:=S.heap.push { cls:=.type "dict_items",data:=.fields #[.ref d] } }:=B.kept (t':=S.toks) λb ob q=>ag _ q
 have D:(S.heap.push { cls:=.type "dict_items",data:=.fields #[.ref d] }).DictAt (kQ X.prog X.w) d M p:=⟨o,l,ag _ c,J,t,r⟩;refine wpAny_pyIter_items (s:={ S with heap:=S.heap.push { cls:=.type "dict_items",data:=.fields #[.ref d] } }) ⟨_,aD _ rfl,rfl,rfl⟩ D ?_
 refine⟨_,[_],_,_,_,rfl,j.kept (t':=S.toks) λb ob q=>ag _ q,Ee d _ o U p ⟨l,t⟩,⟨.none,.none,?_⟩,λb A=>?_,q o⟩
 ·rw[C.length];exact aD _ rfl
 ·have E:=cz.mp A
  subst E;exact j.fpOk (ao _) (j.hok.fresh (ao _))
noncomputable def kW:Key->W
 |.inl i=>.int i|.inr x=>.str x
def Kc (K:List (Key×W)):jA:=⟨λ_ i=>some (K[i]?.map λp=>.tup [kW p.1,p.2]),K.length⟩
def Xu (m:Ev):Ei:=λa A=>match A with
 |[]=>(m a []).bind λw b=>match w,b with|.ref 0,[.dct kvs]=>if qQ (kvs.map (·.2)) then .ok (Kc kvs) [] else .bad|_,_=>.bad
 |_=>.bad
def f3 {K:Frag}{d:Addr}{o:Obj}{U:List (Key×V)}{D:List (Key×W)}(P:H d=some (.frz o (.dK U)))(c:U.map (·.1)=D.map (·.1))(y:zF K φ H (D.map (·.2)) (U.map (·.2)))(n:qQ (D.map (·.2))=true):
  Qb K φ H (Kc D) (Rh d o U):=λi a f Y L S=>by
 unfold Kc;dsimp only;have h:=L.fz d o _ P;have E:zF K a f (D.map (·.2)) (U.map (·.2)):=y.nrm L.tp L.fz n;have l:U.length=D.length:=by have:=congrArg List.length c;simpa using this
 cases e:D[i]? with
 |none=>
  refine⟨λ_ z=>(by cases z),λ_=>⟨h,?_⟩⟩
  rw[List.getElem?_eq_none_iff]at e ⊢;rw[l];exact e
 |some p=>
  have g:i<D.length:=(cu.mp e).1;refine⟨λu z=>?_,λz=>(by cases z)⟩
  cases z;refine⟨⟨h,by rw[l];exact g⟩,λx X ⟨t,q,b,N,T,w⟩=>?_⟩
  subst T w;have M:q.1=p.1:=by
   have I:(U.map (·.1))[i]? =some q.1:=by simp[b]
   rw[c]at I;simp[e]at I;exact I.symm
  have a2:(D.map (·.2))[i]? =some p.2:=by simp[e]
  obtain⟨v,J,Q⟩:=E.get a2;have j:v=q.2:=by simp[b]at J;exact J.symm
  subst j;rw[M];have r:RV K a f (kW p.1) (kV p.1):=by cases p.1<;>rfl
  obtain⟨C,A,B⟩:=JP S N (.cons r (.one Q));exact⟨C,A,B⟩
end
mutual
noncomputable def W.beq:W->W->Bool
 |.non,.non=>true|.bl a,.bl b=>a==b|.int a,.int b=>decide (a=b)|.str a,.str b=>decide (a=b)|.tup a,.tup b=>WB a b|_,_=>false
noncomputable def WB:List W->List W->Bool
 |[],[]=>true|a::as,b::bs=>a.beq b&&WB as bs|_,_=>false
end
mutual
theorem W.eq_of:∀{a b:W},a.beq b=true->a=b
 |.non,.non,_=>rfl|.bl a,.bl b,h=>by have H:(a==b)=true:=h;rw[aL]at H;rw[H]|.int a,.int b,h=>by have H:decide (a=b)=true:=h;rw[aq]at H;rw[H]|.str a,.str b,h=>by have H:decide (a=b)=true:=h;rw[aq]at H;rw[H]|.tup a,.tup b,h=>by have H:WB a b=true:=h;rw[Ma H]|.non,.bl _,h=>nomatch h|.non,.int _,h=>nomatch h|.non,.str _,h=>nomatch h|.non,.tup _,h=>nomatch h|.non,.ref _,h=>nomatch h
 |.bl _,.non,h=>nomatch h|.bl _,.int _,h=>nomatch h|.bl _,.str _,h=>nomatch h|.bl _,.tup _,h=>nomatch h|.bl _,.ref _,h=>nomatch h
 |.int _,.non,h=>nomatch h|.int _,.bl _,h=>nomatch h|.int _,.str _,h=>nomatch h|.int _,.tup _,h=>nomatch h|.int _,.ref _,h=>nomatch h
 |.str _,.non,h=>nomatch h|.str _,.bl _,h=>nomatch h|.str _,.int _,h=>nomatch h|.str _,.tup _,h=>nomatch h|.str _,.ref _,h=>nomatch h
 |.tup _,.non,h=>nomatch h|.tup _,.bl _,h=>nomatch h|.tup _,.int _,h=>nomatch h|.tup _,.str _,h=>nomatch h|.tup _,.ref _,h=>nomatch h
 |.ref _,.non,h=>nomatch h|.ref _,.bl _,h=>nomatch h|.ref _,.int _,h=>nomatch h|.ref _,.str _,h=>nomatch h|.ref _,.tup _,h=>nomatch h|.ref _,.ref _,h=>nomatch h
theorem Ma:∀{a b:List W},WB a b=true->a=b
 |[],[],_=>rfl|a::as,b::bs,h=>by have H:(a.beq b&&WB as bs)=true:=h;rw[ak]at H;rw[W.eq_of H.1,Ma H.2]
 |[],_::_,h=>nomatch h
 |_::_,[],h=>nomatch h
end
section
variable {K:Frag}
def FD (K:Frag)(x:Str)(S:Stmt):Prop:=∃f fd,wm K x x S f fd/\nsIn K mainGlobals x=some (some (.ref f))
def zc1 {S:Stmt}{b:Value}{o A:cf}{kV d p C ct:Value}(a:nsIn K mainGlobals x=some (some (.ref f)))
  (l:K.lookup f=some ⟨b,o,.func (fnOf x x (Za S) (j6 S) (qj S) .none kV d p A C ct),oR⟩)(c:codeIn K C x=true)(k:keepIn K (.ref f)=true):FD K x S:=⟨f,_,eE l c k,a⟩
def CD (K:Frag)(x:Str)(i:Int):Prop:=∃t,nsIn K mainGlobals x=some (some (.int i t))
def zdE {i:Int}{t:Tok}(a:nsIn K mainGlobals x=some (some (.int i t))):CD K x i:=⟨t,a⟩
end
open PySem PySem.Spec PyProof.Rows L2 Mi
@[irreducible] def zx (X:Cx)(x:XR)(e:Expr)(m:Ev):Prop:=Mi.SE X x e m
def Xh:@zx=@Mi.SE:=by delta zx;rfl
@[irreducible] def gy (X:Cx)(x:XR)(e:bZ)(m:Ea):Prop:=Mi.SA X x e m
@[irreducible] def yX (X:Cx)(x:XR)(e:Expr)(m:Ev):Prop:=Mi.ST X x e m
@[irreducible] def Zn (X:Cx)(x:XR)(e:Expr)(m:Ev):Prop:=Mi.SW X x e m
@[irreducible] def ko (X:Cx)(x:XR)(S:Stmt)(m:Ex):Prop:=Mi.SS X x S m
@[irreducible] def yR (X:Cx)(x:XR)(S:cg)(m:Ex):Prop:=Mi.Yb X x S m
@[irreducible] def kN (X:Cx)(x:XR)(t e:Expr)(m:Ei):Prop:=Mi.SI X x t e m
@[irreducible] def w8 (X:Cx)(t:Expr)(m:Tg):Prop:=Mi.SG X t m
@[irreducible] def ZS (X:Cx)(x:XR)(e:Expr)(m:jT):Prop:=Mi.SF X x e m
@[irreducible] def gD (X:Cx)(x:XR)(e:Expr)(m:jT):Prop:=Mi.SQ X x e m
@[irreducible] def Zi (X:Cx)(e:bZ)(m:Ev):Prop:=Mi.WS X e m
@[irreducible] def gT (X:Cx)(e:Expr)(g:List Comprehension)(S:Scope)(c:Pos)(d:Nat)(E:Em):Prop:=Mi.SM X e g S c d E
section
variable {xr:XR}{K:Frag}{a b c:Expr}{es:bZ}{m ma mb mc:Ev}{m1 m2:Ex}{st:Stmt}{oK:cg}
def qa:@zx=@Mi.SE/\@gy=@Mi.SA/\@yX=@Mi.ST/\@Zn=@Mi.SW/\@ko=@Mi.SS/\@yR=@Mi.Yb/\@kN=@Mi.SI/\@w8=@Mi.SG/\@ZS=@Mi.SF/\@gD=@Mi.SQ/\@Zi=@Mi.WS/\@gT=@Mi.SM:=by with_unfolding_all exact⟨rfl,rfl,rfl,rfl,rfl,rfl,rfl,rfl,rfl,rfl,rfl,rfl⟩
def zp {M:Ea}(a:zx X xr e ma)(H:gy X xr es M)(h:ji e es X:=by rfl):gy X xr (e::es) (zi ma M):=by simp only[qa]at*;exact Mi.KW a H h
def zt:gy X xr [] zr:=by simp only[qa]at*;exact Mi.Xe
def jb (H:zx X xr a ma)(h:zx X xr b mb):zx X xr (.BinOp a .Add b o7) (zh ql ma mb):=by simp only[qa]at*;exact ZG (dA.or (d6.or (CM.or eB))) ft Ae H h
def YL {q:jT}(H:X.calm=true)(b:X.mg "all"=none)(a:gD X xr e q)(h:Gl X "all":=by rfl)(c:ji e [] X:=by rfl):
  zx X xr (.Call (.Name "all" p) [e] [] o7) (mQ Y9 q):=by
 simp only[qa]at*;exact Wj (Br H) Mc O8 b (by rfl) a h (by decide) (by decide) c (by rfl)
def ZY {r:bZ}(f:zx X xr a ma)(e:zx X xr (.BoolOp .And (b::r) o7) mb):zx X xr (.BoolOp .And (a::b::r) o7) (wF ma mb):=by
 simp only[qa]at*;exact PE.imp (cV f e) λt H Q ⟨p,A,j,S,i,h⟩=>by
   refine tM.go S i (zY.mp h) λw o c n v g l d q=>?_;cases w with
   |bl k=>
    refine⟨k,q,?_⟩;cases k with|true=>rw[ai rfl];exact⟨c,o,j,d,i.mono l,qD g (λ_ _ z=>z.mono l) λ_ _ z=>z.mono l⟩|false=>rw[aj aH];exact g c n _ l d rfl
   |non=>cases g|int _=>cases g|str _=>cases g|tup _=>cases g|ref _=>cases g|clo _ _ _=>cases g|xc _=>cases g|fn _=>cases g
def Ai {q:jT}(H:X.calm=true)(b:X.mg "any"=none)(a:gD X xr e q)(h:Gl X "any":=by rfl)(c:ji e [] X:=by rfl):
  zx X xr (.Call (.Name "any" p) [e] [] o7) (mQ WE q):=by
 simp only[qa]at*;exact Wj (Bl H) Mc O8 b (by rfl) a h (by decide) (by decide) c (by rfl)
def ye {i j}:zx X xr (.Constant (.bool i) j o7) (zW (.bl i)):=by simp only[qa]at*;exact PE.imp cK λb H Q ⟨a,A,c,S,r,h⟩=>h a H _ .refl S rfl
def gj {g:W->W->Hx->R W}(h:gh X op g)(c:zx X xr a ma)(H:zx X xr b mb)(e:op≠.In:=by decide)(d:op≠.NotIn:=by decide):zx X xr (.Compare a [op] [b] o7) (zh g ma mb):=by simp only[qa]at*;exact let ⟨r,f,a2,A⟩:=h.ex;N8 f a2 A c H (h.mks b e d)
def f5 {o:CmpOp}{g l:W->W->Hx->R W}(h:gh X op g)(p:gh X o l)(e:zx X xr a ma)(d:zx X xr b mb)(H:zx X xr c mc)(n:lastMarks [op,o] [b,c]=false:=by with_unfolding_all rfl):
  zx X xr (.Compare a [op,o] [b,c] o7) (gI g l ma mb mc):=by
 simp only[qa]at*;exact let ⟨r,q,a2,A⟩:=h.ex;let ⟨j,i,f,B⟩:=p.ex;Bz q a2 A i f B e d H n
def zZ {k:Nat}{f:Fn}{M:Ea}(F:qR X.prog X.w X.K X.mg X.base k x n f)(r:jd k X.A)(t:gy X jX (e::es) M)(g:ZI M n:=by repeat' (first|exact zO|refine zA ?_))(j:Gl X x:=by rfl)
  (c:yG x:=by decide)(Y:ji e es X:=by rfl)(l:wR o7 es X:=by rfl):
  zx X jX (.Call (.Name x p) (e::es) [] o7) (zP f M):=by
 simp only[qa]at*;obtain⟨fa,fd,ps,F,U,i,o⟩:=F;refine PE.imp (O3 F r j U i o .nil eD t c Y l) λZ H Q ⟨N,A,D,S,T,h⟩=>?_;have C:=zY.mp h;refine⟨N,A,D,S,T,?_⟩;cases E:M D A with
 |ok J I=>
  rw[E]at C;intro b H1 P L y q;have v:P.length=n:=by rw[<- q.length];exact g D A J I E
  rw[aX];exact⟨v,b,I,J,y,q,qD C (λ_ _ z=>z.mono L) λx A2 z a B d u=>(z a B (L.trans d) u).elim⟩
 |exc x I=>rw[E]at C;exact C|bad=>rw[E]at C;exact C
def f6 {g:W->W->Hx->R W}(h:LD X op g)(c:zx X xr a ma)(H:zx X xr b mb)(d:behindInMarks op b=false:=by rfl):zx X xr (.Compare a [op] [b] o7) (zh g ma mb):=by simp only[qa]at*;exact let ⟨r,e,a2,A⟩:=h.ex;N8 e a2 A c H d
def Oa (t:zx X xr a ma)(P:zx X xr b mb)(g:ji b [] X:=by rfl)
  (c:attributeBase a "count" X.env (eval a X.env)=eval a X.env:=by rfl)
  (d:((backTo oD (starEach [b] X.env)).all (λx=>!x.1)&&(backToKw oD (keywordEach [] X.env)).all (λx=>x.1.isSome)
   && decide ([b].length+([]:cb).length+(if ([]:cb).isEmpty then 0 else 1)<30))=true:=by rfl)(e:(oH.endLine==oD.line)=true:=by rfl):
  zx X xr (.Call (.Attribute a "count" oH) [b] [] oD) (TZ Xb ma mb):=by
 simp only[qa]at*;exact PE.imp (fK PySem.F.slot_tuple_count PySem.F.type_tuple_count CJ t (jt P yn g) c d e g (by rfl)) λY H Q ⟨U,A,Z,S,J,h⟩=>by
   refine tM.go S J (zY.mp h) λw A1 i H1 v K L y n=>?_;cases w with
   |tup M=>
    obtain⟨p,E,rfl,T,r⟩:=n;refine⟨p,E,rfl,T,?_⟩;refine tM.go y (J.mono L) (qD (zY.mp K) (λ_ _ z=>z) λ_ _ z=>z.mono L) λj A2 f B N C l u q=>?_;unfold Xb at C;dsimp only at C
    by_cases D:(yA j&&M.all yA)=true
    ·rw[ai D]at C
     rw[ak]at D;obtain⟨o,I⟩:=Ui q D.1 (r.mono l) D.2;refine⟨p,E,N,rfl,rfl,l.tp _ _ T,KG q D.1,o,?_⟩;rw[I];rw[G9]at C;exact C f B _ (L.trans l) u (by simp[RV])
    ·rw[aj D]at C;exact C.elim
   |_=>exact K.elim
def U4:zx X xr (.Dict [] [] o7) X5:=by
 simp only[qa]at*;exact PE.imp C8 λd H Q ⟨c,A,e,S,r,h⟩ p a=>by obtain⟨l,b⟩:=S.alloc (o:=.dct []) a (u:=.dK []) ⟨[],jY,rfl,.nil⟩;exact h _ _ _ l b ⟨p,rfl,by rw[<- S.len];simp⟩
def EZ {k:Nat}(x:jd k X.A)(B:zx X xr a ma)(y:zx X xr b mb)(u:SX b:=by intro _ _;rfl):zx X xr (.Subscript a b o7) (zh Sy ma mb):=by
 simp only[qa]at*;exact PE.imp (BP (eF x) B y u) λZ H Q ⟨Y,A,ρ,S,J,h⟩=>by
   refine tM.go S J (zY.mp h) λw A1 f H1 v M l C j=>?_;refine tM.go C (J.mono l) (qD (zY.mp M) (λ_ _ z=>z) λ_ _ z=>z.mono l) λg U c D v2 I L d q=>?_;unfold Sy at I;cases w with
   |ref n=>
    cases g with
    |int i=>
     obtain rfl:=q;dsimp only[X4]at I;cases e:U[n]? with
     |none=>rw[e]at I;exact I.elim|some o=>cases o with
      |dct K=>
       rw[e]at I;dsimp only at I;obtain⟨p,us,rfl,f1,T,P,N⟩:=d.dct (j.mono L) e;cases E:ki (.inl i) K with
       |none=>rw[E]at I;exact I.elim|some w=>
        rw[E]at I;obtain⟨v,t,r⟩:=(Uu (.inl i) P N).1 w E;refine⟨p,v,rfl,?_,I c D v (l.trans L) d r⟩;rw[<- t];exact Ke.k (k:=.inl i) T
      |_=>rw[e]at I;exact I.elim
    |_=>exact I.elim
   |_=>exact I.elim
def Bx {i:Int}{t:Tok}(g:Gl X x)(b:X.mg x=some (.int i t))(d:yG x:=by decide):zx X xr (.Name x o7) (zW (.int i)):=by simp only[qa]at*;exact PE.imp (Ad g b (v:=.int i) ⟨t,rfl⟩ d) λc H Q ⟨a,A,e,S,r,h⟩=>h a H _ .refl S rfl
def f7 {c:Expr}(f:yX X xr c mc)(i:zx X xr a ma)(g:zx X xr b mb):zx X xr (.IfExp c a b o7) (eU mc ma mb):=by
 simp only[qa]at*;exact PE.imp (Be f i g) λq H Q ⟨p,A,n,S,r,h⟩=>by
   refine tT.go S r (zY.mp h) λw o j=>?_;cases w with
   |bl k=>
    refine⟨k,rfl,λd t l e=>?_⟩;cases k with|true=>rw[ai rfl];exact⟨d,o,n,e,r.mono l,qD j (λ_ _ z=>z.mono l) λ_ _ z=>z.mono l⟩|false=>rw[aj aH];exact⟨d,o,n,e,r.mono l,qD j (λ_ _ z=>z.mono l) λ_ _ z=>z.mono l⟩
   |non=>cases j|int _=>cases j|str _=>cases j|tup _=>cases j|ref _=>cases j|clo _ _ _=>cases j|xc _=>cases j|fn _=>cases j
def zC {i j}:zx X xr (.Constant (.int i) j o7) (zW (.int i)):=by simp only[qa]at*;exact PE.imp NP λb H Q ⟨a,A,c,S,r,h⟩=>h a H _ .refl S rfl
def gK (t:Ty){P:Pos}(o:X.mg "isinstance"=none)(b:X.mg x=none)(f:bootBuiltins x=some (.type t.nm))(i:zx X xr e m)(g:Gl X "isinstance":=by rfl)(c:Gl X x:=by rfl)
  (n:x ≠ "__name__":=by decide)(u:yG x:=by decide)
  (j:starEach [e,.Name x P] X.env=(false,eval e X.env)::starEach [.Name x P] X.env:=by rfl)(y:(backTo o7 (starEach [.Name x P] X.env)).any (·.1)=false:=by rfl):
  zx X xr (.Call (.Name "isinstance" p) [e,.Name x P] [] o7) (gC t m):=by
 simp only[qa]at*;exact PE.imp (Q0 BV g o (by rfl) (jt i (jt (G3 c b f (v:=.ty t.nm) rfl n u) yn) j) (by decide) (by decide) j y) λD H Q ⟨C,A,I,S,r,h⟩=>by
   refine tM.go S r (zY.mp h) λw B a z v j l d q=>?_;cases E:jM w B with
   |none=>rw[E]at j;exact j.elim|some T=>
    rw[E]at j;exact⟨v,T,t,rfl,OJ d q E,j a z _ l d rfl⟩
def qh (c:zx X xr a ma)(H:zx X xr b mb)(h:Na b:=by intro _ _;rfl):zx X xr (.Subscript a b o7) (zh zD ma mb):=by simp only[qa]at*;exact PE.imp (d7 ed c H h) (zh.read fg fh)
def qM {q:jT}(a:X.mg "len"=none)(H:gD X xr e q)(h:Gl X "len":=by rfl)(b:ji e [] X:=by rfl):
  zx X xr (.Call (.Name "len" p) [e] [] o7) (mQ qf q):=by
 simp only[qa]at*;exact Wj Ff (λ_ _=>yf) BZ a (by rfl) H h (by decide) (by decide) b (by rfl)
def gc {q:jT}(h:ZS X xr e q):zx X xr e (jW q):=by simp only[qa]at*;exact PE.imp h jW.read
def EA {P D:Pos}(u:X.calm=true)(N:X.mg "list"=none)(e:X.mg "range"=none)(x:zx X xr a ma)(t:Gl X "list":=by rfl)(f:Gl X "range":=by rfl)(g:starEach [a] X.env=[(false,eval a X.env)]:=by rfl)
  (c:starEach [.Call (.Name "range" P) [a] [] D] X.env=(false,eval (.Call (.Name "range" P) [a] [] D) X.env)::starEach [] X.env:=by rfl):
  zx X xr (.Call (.Name "list" p) [.Call (.Name "range" P) [a] [] D] [] o7) (U3 ma):=by
 simp only[qa]at*;exact PE.imp (KH (Eg u) t N (by rfl) (jt (BW f e (jt x yn (by rw[g];rfl)) g) yn c) (by decide) (by decide) c (by rfl)) λU H Q ⟨T,A,Y,S,J,h⟩=>by
   refine tM.go S J (zY.mp h) λw Z b I v E L C q=>?_;cases w with
   |int j=>
    obtain rfl:=q;dsimp only at E
    by_cases d:(jv j&&decide (j.toNat<=zX))=true
    ·rw[ai d]at E
     rw[ak,aq]at d;refine⟨j,rfl,λp n=>⟨p,j,rfl,jY,QY d.1,Yx d.2,λl o=>?_⟩⟩;have M:Le X.K b I b (upd I p (.rng 0 j)):=Le.new n;have r:zF X.K b (upd I p (.rng 0 j)) ((List.range j.toNat).map λ(i:Nat)=>W.int i) (J2 j.toNat):=by
      have:=(zF.ints (K:=X.K) (φ:=b) (H:=upd I p (.rng 0 j)) (ns:=(List.range j.toNat).map λ(i:Nat)=>(i:Int)) (vs:=J2 j.toNat)).mpr (by unfold J2;simp)
      rw[aW]at this;exact this
     obtain⟨z,y,B⟩:=Q8 (C.lay n) o r;exact E _ _ _ ((L.trans M).trans z) y B
    ·rw[aj d]at E;exact E.elim
   |_=>exact E.elim
def qO {M:Ea}(h:gy X xr es M)(H:ZI M n)(a:n<=zX:=by decide):zx X xr (.List es o7) (qA M):=by simp only[qa]at*;exact Mi.Nx h H a
def YC {q:jT}(H:X.calm=true)(b:X.mg "max"=none)(a:gD X xr e q)(h:Gl X "max":=by rfl)(c:ji e [] X:=by rfl):
  zx X xr (.Call (.Name "max" p) [e] [] o7) (mQ gq q):=by
 simp only[qa]at*;exact Wj (DP H) fE Al b (by rfl) a h (by decide) (by decide) c (by rfl)
def Ol (e:X.calm=true)(w:X.mg "min"=none)(o:zx X xr a ma)(n:zx X xr b mb)(l:Gl X "min":=by rfl)(B:ji a [b] X:=by rfl)(z:ji b [] X:=by rfl)(h:wR o7 [b] X:=by rfl):
  zx X xr (.Call (.Name "min" p) [a,b] [] o7) (zh Sl ma mb):=by
 simp only[qa]at*;exact MN (Dp e) QC (λt A H x y u v Q S d c p=>by
   obtain⟨i,j,r,E,q⟩:=Qt (K:=X.K) (f:=λi j=>.int (if j<i then j else i)) (g:=λi j=>.int (if j<i then j else i)) (λ_ _ _ _=>rfl) t A H x y u v Q S d c p;subst r;subst E;exact⟨i,j,rfl,q⟩) w (by rfl) o n l (by decide) (by decide) B z h
def wV (H:zx X xr a ma)(h:zx X xr b mb):zx X xr (.BinOp a .Mod b o7) (zh Z6 ma mb):=by simp only[qa]at*;exact ZG dE Wq (Wd B7 λ_ _ _ _=>rfl) H h
def jg (H:zx X xr a ma)(h:zx X xr b mb):zx X xr (.BinOp a .Mult b o7) (zh qt ma mb):=by simp only[qa]at*;exact ZG (dD.or eC) fv A9 H h
def Nq (h:zx X xr a ma):zx X xr (.UnaryOp .USub a o7) (gE J7 ma):=by
 simp only[qa]at*;exact eS Mf (λx A=>by unfold J7;split;exact yf;exact jh) (λb A H x u Q S q p=>by
  cases u with|int i=>obtain rfl:=q;exact⟨i,rfl,p b H _ .refl S rfl⟩|_=>exact p.elim) h
def Qn {j}:zx X xr (.Constant .none j o7) (zW .non):=by simp only[qa]at*;exact PE.imp cL λb H Q ⟨a,A,c,S,r,h⟩=>h a H _ .refl S rfl
def Ni (c:zx X xr a ma):zx X xr (.UnaryOp .Not a o7) (kh ma):=by
 simp only[qa]at*;exact PE.imp (cW c) λi H Q ⟨g,A,j,S,r,h⟩=>by
   refine tM.go S r (zY.mp h) λw n b f v e l d q=>?_;cases w with|bl k=>exact⟨k,q,e b f _ l d rfl⟩|non=>cases e|int _=>cases e|str _=>cases e|tup _=>cases e|ref _=>cases e|clo _ _ _=>cases e|xc _=>cases e|fn _=>cases e
def Qp {op}(h:zx X xr a ma):zx X xr (.BoolOp op [a] o7) ma:=by simp only[qa]at*;exact cU h
def ED (ho:zx X xr a ma)(he:zx X xr b mb)(hf:zx X xr c mc)(h1:ji b [c] X:=by rfl)(h2:ji c [] X:=by rfl)
  (j:attributeBase a "setdefault" X.env (eval a X.env)=eval a X.env:=by rfl)
  (r:((backTo oD (starEach [b,c] X.env)).all (λx=>!x.1)&&(backToKw oD (keywordEach [] X.env)).all (λx=>x.1.isSome)
   && decide ([b,c].length+([]:cb).length+(if ([]:cb).isEmpty then 0 else 1)<30))=true:=by rfl)(g:(oH.endLine==oD.line)=true:=by rfl)(N:wR oD [c] X:=by rfl):
  zx X xr (.Call (.Attribute a "setdefault" oH) [b,c] [] oD) (Wa Q3 ma mb mc):=by
 simp only[qa]at*;exact PE.imp (Mq PySem.F.plainAttrs_dict PySem.F.slot_dict_setdefault PySem.F.type_dict_setdefault DC ho (jt he (jt hf yn h2) h1) j r g h1 N) λσ H Q ⟨φ,A,ρ,S,re,h⟩=>by
   refine tM.go S re (zY.mp h) λw A1 oJ H1 v h1 I S1 q1=>?_
   by_cases hd:Vq w A1=true
   ·rw[ai hd]at h1
    refine⟨C3 S1 q1 hd,?_⟩;refine tM.go S1 (re.mono I) (qD (zY.mp h1) (λ_ _ z=>z) λ_ _ z=>z.mono I) λy A2 φ2 H2 v2 h2 l2 S2 q2=>?_;have l:=I.trans l2;refine tM.go S2 (re.mono l) (qD (zY.mp h2) (λ_ _ z=>z) λ_ _ z=>z.mono l) λw3 A3 f T q d l3 P Z=>?_;have L:=l.trans l3;unfold Q3 at d;cases w with
    |ref n=>cases y with
     |int i=>
      obtain rfl:=q2;dsimp only[X4]at d;cases t:A3[n]? with
      |none=>rw[t]at d;exact d.elim|some o=>cases o with
       |dct kvs=>
        rw[t]at d;dsimp only at d;obtain⟨p,us,rfl,f1,g1,g2,g3⟩:=P.dct ((q1.mono l2).mono l3) t;have hlen:us.length=kvs.length:=by have:=congrArg List.length g2;simpa using this
        by_cases J:kvs.length<zX
        ·rw[ai J]at d
         have D:=Uu (.inl i) g2 g3;refine⟨p,us,.inl i,q,rfl,rfl,g1,?_,λv' M=>?_,λhn=>?_⟩
         ·rw[hlen]
          have:sizeLine=16777216:=sizeLine_eq
          unfold zX at J;lia
         ·cases E:ki (.inl i) kvs with
          |none=>rw[D.2 E]at M;cases M|some B=>
           rw[E]at d;obtain⟨C,e,Y⟩:=D.1 B E;rw[M]at e;cases e;exact d f T _ L P Y
         ·cases E:ki (.inl i) kvs with
          |some B=>obtain⟨C,e,Y⟩:=D.1 B E;rw[hn]at e;cases e|none=>
           rw[E]at d;dsimp only at d;rw[CF q hn];have ln:Le X.K f T f (upd T p (.dK (us++[(.inl i,q)]))):=Le.upd f1 (λxs z=>by rw[g1]at z;cases z) (λ_ _ z=>by rw[g1]at z;cases z)
           obtain⟨U,y⟩:=P.write (o:=.dct kvs) (o':=.dct (kvs++[(.inl i,w3)])) t rfl rfl f1 (u:=.dK (us++[(.inl i,q)])) ⟨us++[(.inl i,q)],jY,by simp[g2],by rw[aN,aN];exact(g3.mono ln).append (.one (Z.mono ln))⟩
           exact d _ _ _ (L.trans U) y (Z.mono U)
        ·rw[aj J]at d;exact d.elim
       |_=>rw[t]at d;exact d.elim
     |_=>exact d.elim
    |_=>exact d.elim
   ·rw[aj hd]at h1;exact h1.elim
def ZE (H:zx X xr a ma)(h:zx X xr b mb):zx X xr (.BinOp a .Sub b o7) (zh w5 ma mb):=by simp only[qa]at*;exact ZG dC QC (Qt λ_ _ _ _=>rfl) H h
def KY {q:jT}(H:X.calm=true)(b:X.mg "sum"=none)(a:gD X xr e q)(h:Gl X "sum":=by rfl)(c:ji e [] X:=by rfl):
  zx X xr (.Call (.Name "sum" p) [e] [] o7) (mQ wH q):=by
 simp only[qa]at*;exact Wj (E2 H) fF fG b (by rfl) a h (by decide) (by decide) c (by rfl)
def jf {x1}{M:Ea}(h:gy X xr es M)(c:ZI M n)(t:n<=zX:=by decide):zx X xr (.Tuple es x1 o7) (qP M):=by
 simp only[qa]at*;exact PE.imp (NZ h) λv H Q ⟨j,A,i,S,r,h⟩=>by
   have g:=zY.mp h;cases e:M i A with
   |ok w o=>
    rw[e]at g;refine⟨j,A,i,S,r,?_⟩;rw[e];intro a z y l f q;refine⟨by rw[<- q.length,c i A w o e];exact Yx t,λp b=>?_⟩
    obtain⟨u,a2,d⟩:=JP f b q;exact g _ _ _ (l.trans u) a2 d
   |exc x o=>rw[e]at g;refine⟨j,A,i,S,r,?_⟩;rw[e];exact g|bad=>rw[e]at g;exact g.elim
def jF {q:jT}(a:X.mg "tuple"=none)(H:gD X xr e q)(h:Gl X "tuple":=by rfl)(b:ji e [] X:=by rfl):
  zx X xr (.Call (.Name "tuple" p) [e] [] o7) (mQ jS q):=by
 simp only[qa]at*;exact fj HC (λ_ _=>yf) AD a (by rfl) H h (by decide) (by decide) b (by rfl)
def AS (i:Nat)(b:X.N[i]? =some x:=by rfl)(a:WO X.env.scope x:=by first|exact Or.inl rfl|exact Or.inr (Or.inl rfl)|exact Or.inr (Or.inr rfl))(g:yG x:=by decide)
  (d:(x==("__classdict__":Str))=false:=by decide):zx X xr (.Name x o7) (zS i):=by
 simp only[qa]at*;exact PE.imp (NK b a g d) λn H Q ⟨c,A,f,S,r,h⟩=>by
  unfold zS at h;cases e:f[i]? with
  |none=>rw[e]at h;cases h|some o=>cases o with
   |none=>rw[e]at h;cases h|some w=>
    rw[e]at h;obtain⟨v,l,j⟩:=r.get i w e;exact⟨v,l,h c H v .refl S j⟩
def Ct {i:Ei}{t:Tg}{M:Ev}{e:Em}(l:Nat)(C:bW)(c:X.calm=true)(S:gH X sc)(p:Z5 X.N N sc l C=true)(w:kN X xr tg o8 i)
  (n:∀s H fp,w8 (jI X N sc s H fp yh) tg t/\Zi (jI X N sc s H fp yh) ifs M/\gT (jI X N sc s H fp yh) oI (⟨tg,o8,ifs,0⟩::gs) sc o7 0 e)
  (b:∀g',gs[0]? =some g'->g'.is_async=0:=by intro _ h;cases h<;>rfl)
  (a:∀x,foldedSetIterable o8 X.env x=pure x:=by intro _;rfl):ZS X xr (.ListComp oI (⟨tg,o8,ifs,0⟩::gs) sc o7) (qy l C i t M e):=by
 simp only[qa]at*;exact PE.imp (AB (g:=tG X.K t) (ti:=tT X.K jX M) (tm:=tE X.K e) c S p b w n a) qy.read
def kP (i j:Nat){y:Str}{q:Pos}{k:Nat}(r:X.calm=true)(h:X.N.Nodup)(n:X.N[i]? =some x:=by rfl)(f:Loc X.env.scope x:=by first|exact Or.inl rfl|exact Or.inr rfl)(I:QO X x:=by first|exact .inl rfl|exact .inr rfl)
  (l:X.N[j]? =some y:=by rfl)(d:Loc X.env.scope y:=by first|exact Or.inl rfl|exact Or.inr rfl)(o:QO X y:=by first|exact .inl rfl|exact .inr rfl):w8 X (.Tuple [.Name x p,.Name y q] k o7) (jH i j):=by
 simp only[qa]at*;exact PG.imp (TU r (Yz (YK h n f I) (Yz (YK h l d o) UN))) λv P H Q ⟨M,A,T,w,b,S,D,c,e,K⟩=>by
   unfold jH at e
   split at e
   ·rename_i U Y
    have E:=aC e;subst E;obtain⟨a,Z,rfl,g,C⟩:=c;obtain⟨B,u,rfl,L,z,t,rfl,J,rfl⟩:=C;exact⟨a,[B,z],rfl,g,rfl,B,[z],rfl,z,[],rfl,rfl,K _ ((D.set L).set J)⟩
   ·cases e
def DK (i j k:Nat){y z:Str}{q r pp:Pos}{t:Nat}(f:X.calm=true)(c:X.N.Nodup)(J:X.N[i]? =some x:=by rfl)(C:Loc X.env.scope x:=by first|exact Or.inl rfl|exact Or.inr rfl)(hf:QO X x:=by first|exact .inl rfl|exact .inr rfl)
  (I:X.N[j]? =some y:=by rfl)(B:Loc X.env.scope y:=by first|exact Or.inl rfl|exact Or.inr rfl)(L:QO X y:=by first|exact .inl rfl|exact .inr rfl)
  (E:X.N[k]? =some z:=by rfl)(u:Loc X.env.scope z:=by first|exact Or.inl rfl|exact Or.inr rfl)(K:QO X z:=by first|exact .inl rfl|exact .inr rfl):
  w8 X (.Tuple [.Name x p,.Tuple [.Name y q,.Name z r] t pp] n o7) (Xi i j k):=by
 simp only[qa]at*;exact PG.imp (TU f (Yz (YK c J C hf) (Yz (TU f (Yz (YK c I B L) (Yz (YK c E u K) UN))) UN))) λv σ H Q ⟨φ,A,ρ,w,g,S,re,o,e,kk⟩=>by
   unfold Xi at e
   split at e
   ·rename_i x1 Y Z
    have T:=aC e;subst T;obtain⟨a,vs,rfl,D,rs⟩:=o;obtain⟨v1,r1,rfl,h1,v2,r2,rfl,h2,rfl⟩:=rs;obtain⟨a2,l,rfl,h,b⟩:=h2;obtain⟨d,U,rfl,P,v4,r4,rfl,M,rfl⟩:=b;exact⟨a,[v1,.ref a2],rfl,D,rfl,v1,[.ref a2],rfl,.ref a2,[],rfl,a2,[d,v4],rfl,h,rfl,d,[v4],rfl,v4,[],rfl,rfl,rfl,kk _ (((re.set h1).set P).set M)⟩
   ·cases e
def ja (i:Nat)(c:X.N.Nodup)(b:X.N[i]? =some x:=by rfl)(h:Loc X.env.scope x:=by first|exact Or.inl rfl|exact Or.inr rfl)(f:QO X x:=by first|exact .inl rfl|exact .inr rfl):w8 X (.Name x o7) (zM i):=by
 simp only[qa]at*;exact PG.imp (YK c b h f) λv j H Q ⟨g,A,d,w,a,S,r,q,e,k⟩=>by have E:d.set i (some w)=a:=aC e;subst E;exact k _ (r.set q)
def jJ (h:zx X xr e m):kN X xr tg e (qI m):=by
 simp only[qa]at*;exact PI.imp (eY h) λσ H Rr ⟨φ,A,ρ,S,re,h⟩=>by
  refine tM.go S re (zY.mp h) λw A1 f H1 v h1 P N Q=>?_;unfold Wy at h1;cases e:zI w A1 with
  |none=>rw[e]at h1;exact h1.elim|some ws=>
   rw[e]at h1;dsimp only at h1;cases w with
   |tup us=>
    obtain⟨a,Y,rfl,g,q⟩:=Q;refine⟨a,rfl,.inr ⟨⟨Y,g⟩,h1 f H1 _ P N λi c j A' lw d=>⟨λC b=>?_,λb=>?_⟩⟩⟩
    ·have E:us[i]? =some C:=aC b
     obtain⟨y,l,I⟩:=(q.monoW lw).get E;refine⟨⟨Y,y,lw.tp _ _ g,l⟩,λx Z B=>?_⟩;obtain⟨M,L⟩:=B;subst M;have p:=L Y (lw.tp _ _ g);rw[l]at p;cases p;exact⟨.refl,d,I⟩
    ·have E:us[i]? =none:=aC b
     refine⟨Y,lw.tp _ _ g,?_⟩;rw[<- q.length];exact List.getElem?_eq_none_iff.mp E
   |ref n=>
    obtain⟨a,rfl,g⟩:=Q;have read:∀{c j A' us},QS X.K f H1 c j->zL X.K c A' j->zI (.ref n) A'=some us->∃Y,q9 X.K j a Y/\zF X.K c j us Y:=λ {c j A' us} lw d es=>by
     obtain⟨U,Y,T,z,r⟩:=Gp (w:=.ref n) (v:=.ref a) d ⟨a,rfl,lw.ex _ _ g⟩ es;cases T;unfold zI at es;dsimp only at es;cases J:A'[n]? with
     |none=>rw[J]at es;cases es|some o=>
      rw[J]at es;obtain⟨U,q,r⟩:=d.ob n o J;rw[lw.ex _ _ g]at q;cases q;cases o with|lst xs=>cases es;obtain⟨Y,h1,h2⟩:=r;exact⟨Y,q9.of h1,h2⟩|ro xs=>cases es;obtain⟨Y,h1,h2⟩:=r;exact⟨Y,h1.sq,h2⟩|dct xs=>cases es|td _=>cases es|tr _=>cases es|tab _ _=>cases es
    obtain⟨u,D,_⟩:=read ⟨λ_ _ h=>h,λ_ _ h=>h,λ_ _ _ h=>h⟩ N e;refine⟨a,rfl,.inl ⟨⟨u,D⟩,h1 f H1 _ P N λi c j A' lw d=>⟨λC b=>?_,λb=>?_⟩⟩⟩
    ·dsimp only at b
     cases es:zI (.ref n) A' with
     |none=>rw[es]at b;cases b|some us=>
      rw[es]at b;have E:us[i]? =some C:=aC b;obtain⟨Y,t,r⟩:=read lw d es;obtain⟨y,l,I⟩:=r.get E;refine⟨⟨Y,y,t,l⟩,λx Z B=>?_⟩;obtain⟨M,L⟩:=B;subst M;have p:=L Y t;rw[l]at p;cases p;exact⟨.refl,d,I⟩
    ·dsimp only at b
     cases es:zI (.ref n) A' with
     |none=>rw[es]at b;cases b|some us=>
      rw[es]at b;have E:us[i]? =none:=aC b;obtain⟨Y,t,r⟩:=read lw d es;refine⟨Y,t,?_⟩;rw[<- r.length];exact List.getElem?_eq_none_iff.mp E
   |non=>cases e|bl _=>cases e|clo _ _ _=>cases e|xc _=>cases e|fn _=>cases e|int _=>cases e|str _=>cases e
def JB (g:Gl X "enumerate")(j:X.mg "enumerate"=none)(e:zx X xr a ma)(c:starEach [a] X.env=[(false,eval a X.env)]:=by rfl):kN X xr (.Tuple oO kk oG) (.Call (.Name "enumerate" p) [a] [] o7) (Zf ma):=by
 simp only[qa]at*;exact PI.imp (AI g j (jt e yn (by rw[c];rfl)) c) λu H r ⟨t,A,x,S,i,h⟩=>by
   refine tM.go S i (zY.mp h) λw o b n v f l d q=>?_;cases es:zI w o with
   |none=>rw[es]at f;exact f.elim|some B=>
    rw[es]at f;obtain⟨p,y,rfl,z,Z⟩:=GL d q es;exact⟨p,Jd w,y,rfl,z,f b n _ l d (fR q)⟩
set_option tactic.hygienic true in
def Dm (j:zx X xr a ma)(d:attributeBase a "items" X.env (eval a X.env)=eval a X.env:=by rfl)(e:(oH.endLine==oD.line)=true:=by rfl):
  kN X xr (.Tuple oO kk oG) (.Call (.Attribute a "items" oH) [] [] oD) (Xu ma):=by
 simp only[qa]at*;exact PI.imp (CW j d e) λσ H x ⟨M,A,ρ,S,N,h⟩=>by
   unfold Xu at h;cases A with
   |cons o A=>exact h.elim|nil=>
    dsimp only at h;have g:M=[]:=by have:=S.len;simpa using this
    subst g;refine tM.go S N (zY.mp h) λw A1 i L v B l r q=>?_
    split at B
    ·rename_i C
     by_cases D:qQ (C.map (·.2))=true
     ·rw[ai D]at B
      obtain⟨p,I,rfl,Z,E,Y,Q⟩:=r.dct q (kvs:=C) rfl;have J:H p=none:=by
       rcases l.nw 0 p Z with z|z
       ·simp at z
       ·exact z
      refine⟨p,I,rfl,E,λo=>?_⟩;have T:∀c y,qF X.K L c y->qF X.K (upd L p (.frz o (.dK I))) c y:=λc y t=>GS t (λxs z=>by rw[E]at z;cases z) (λ_ _ z=>by rw[E]at z;cases z)
      have le:Le X.K [] H [] (upd L p (.frz o (.dK I))):=by
       refine⟨λn c z=>z,λc y t=>T c y (l.tp c y t),λc u b P=>?_,λn c z=>.inl z,λc z=>?_,λc u U b=>?_⟩
       ·rw[qx (wq b J)];exact l.fr c u b P
       ·by_cases f:c=p
        ·rw[f];exact J
        ·rw[qx f]at z;exact l.st c z
       ·rw[qx (wq b J)];exact l.fz c u U b
      exact B [] _ _ le zL.none (f3 (o:=o) jY Y (Q.nrm T (λc u U b=>by rw[qx (YY b E (by intro z;cases z))];exact b) D) D)
     ·rw[aj D]at B;exact B.elim
    ·exact B.elim
def jk (g:Gl X "range")(t:X.mg "range"=none)(e:zx X xr a ma)(d:starEach [a] X.env=[(false,eval a X.env)]:=by rfl):kN X xr tg (.Call (.Name "range" p) [a] [] o7) (j8 ma):=by
 simp only[qa]at*;exact PI.imp (Dd g t (jt e yn (by rw[d];rfl)) d) λy H r ⟨x,A,z,S,o,h⟩=>by
   refine tM.go S o (zY.mp h) λw C b u v n l i q=>?_;cases w with
   |int j=>
    obtain rfl:=q;dsimp only at n
    by_cases c:jv j=true
    ·rw[ai c]at n
     obtain⟨f,B⟩:=QY c;exact⟨j,rfl,f,B,n b u _ l i Me⟩
    ·rw[aj c]at n;exact n.elim
   |non=>exact n.elim|bl _=>exact n.elim|str _=>exact n.elim|tup _=>exact n.elim|ref _=>exact n.elim|clo _ _ _=>exact n.elim|xc _=>exact n.elim|fn _=>exact n.elim
def GF (o:Gl X "range")(M:X.mg "range"=none)(t:zx X xr a ma)(r:zx X xr b mb)(f:starEach [a,b] X.env=[(false,eval a X.env),(false,eval b X.env)]:=by rfl)(c:starEach [b] X.env=[(false,eval b X.env)]:=by rfl):kN X xr tg (.Call (.Name "range" p) [a,b] [] o7) (Jc ma mb):=by
 simp only[qa]at*;exact PI.imp (DV o M (jt t (jt r yn (by rw[c];rfl)) (by rw[f,c])) f c) λT H I ⟨P,A,U,S,K,h⟩=>by
   refine tM.go S K (zY.mp h) λw A1 g Z v N l D Q=>?_;refine tM.go D (K.mono l) (qD (zY.mp N) (λ_ _ z=>z) λ_ _ z=>z.mono l) λn A2 e E Y J L C q=>?_;cases w with
   |int i=>
    obtain rfl:=Q;cases n with
    |int j=>
     obtain rfl:=q;dsimp only at J
     by_cases d:(jv i&&jv j)=true
     ·rw[ai d]at J
      rw[ak]at d;obtain⟨y,x⟩:=QY d.1;obtain⟨u,B⟩:=QY d.2;exact⟨i,j,rfl,⟨y,x,u,B⟩,J e E _ (l.trans L) C Me⟩
     ·rw[aj d]at J;exact J.elim
    |non=>exact J.elim|bl _=>exact J.elim|str _=>exact J.elim|tup _=>exact J.elim|ref _=>exact J.elim|clo _ _ _=>exact J.elim|xc _=>exact J.elim|fn _=>exact J.elim
   |non=>exact J.elim|bl _=>exact J.elim|str _=>exact J.elim|tup _=>exact J.elim|ref _=>exact J.elim|clo _ _ _=>exact J.elim|xc _=>exact J.elim|fn _=>exact J.elim
def Cu {c P:Pos}{k}(n:Gl X "range")(N:X.mg "range"=none)(r:zx X xr a ma)(o:zx X xr b mb)
  (K:starEach [a,b,.UnaryOp .USub (.Constant (.int 1) k c) P] X.env=(false,eval a X.env)::starEach [b,.UnaryOp .USub (.Constant (.int 1) k c) P] X.env:=by rfl)
  (J:starEach [b,.UnaryOp .USub (.Constant (.int 1) k c) P] X.env=(false,eval b X.env)::starEach [.UnaryOp .USub (.Constant (.int 1) k c) P] X.env:=by rfl)
  (t:(backTo o7 (starEach [b,.UnaryOp .USub (.Constant (.int 1) k c) P] X.env)).any (·.1)=false:=by rfl):
  kN X xr tg (.Call (.Name "range" p) [a,b,.UnaryOp .USub (.Constant (.int 1) k c) P] [] o7) (XA ma mb):=by
 simp only[qa]at*;exact PI.imp (E8 n N (jt r (jt o (jt (Mw Mf NP) yn (by rfl)) J) K) K t) λU H I ⟨T,A,Y,S,M,h⟩=>by
   refine tM.go S M (zY.mp h) λw A1 f H1 v K l D Q=>?_;refine tM.go D (M.mono l) (qD (zY.mp K) (λ_ _ z=>z) λ_ _ z=>z.mono l) λg A2 e E Z J L C q=>?_;cases w with
   |int i=>
    obtain rfl:=Q;cases g with
    |int j=>
     obtain rfl:=q;dsimp only at J
     by_cases d:(jv i&&jv j)=true
     ·rw[ai d]at J
      rw[ak]at d;obtain⟨y,x⟩:=QY d.1;obtain⟨u,B⟩:=QY d.2;exact⟨1,rfl,i,j,rfl,⟨y,x,u,B⟩,J e E _ (l.trans L) C fM⟩
     ·rw[aj d]at J;exact J.elim
    |_=>exact J.elim
   |_=>exact J.elim
def JE (t:Gl X "zip")(T:X.mg "zip"=none)(x:zx X xr a ma)(u:zx X xr b mb)(i:ji a [b] X:=by rfl)(d:ji b [] X:=by rfl)(r:wR o7 [b] X:=by rfl):
  kN X xr (.Tuple oO kk oG) (.Call (.Name "zip" p) [a,b] [] o7) (kI ma mb):=by
 simp only[qa]at*;exact PI.imp (fV t T (jt x (jt u yn d) i) i r) λσ H I ⟨Y,A,ρ,S,K,h⟩=>by
   refine tM.go S K (zY.mp h) λw A1 j H1 v U l B o=>?_;refine tM.go B (K.mono l) (qD (zY.mp U) (λ_ _ z=>z) λ_ _ z=>z.mono l) λg M c C v2 J L f Q=>?_;cases es:zI w M with
   |none=>rw[es]at J;exact J.elim|some us=>
    cases e:zI g M with
    |none=>rw[es,e]at J;exact J.elim|some vs=>
     rw[es,e]at J;have q:=o.mono L;obtain⟨p,N,rfl,n,E⟩:=GL f q es;obtain⟨P,y,rfl,Z,D⟩:=GL f Q e;exact⟨p,P,Jd w,Jd g,N,y,rfl,n,Z,J c C _ (l.trans L) f (fW q Q)⟩
def AK {d:Nat}{M:Ev}(x:∀e s,X.xe e s->False)(C:zx X jX oI M)(g:gens[d+1]? =none):gT X oI gens sc o7 d (qe M):=by
 simp only[qa]at*;exact gB.imp (Bp x C g) λD B H Q ⟨E,A,I,u,y,S,t,j,n,r,h⟩=>by
   refine tM.go S t (UK (zY.mp h)) λw K c J v p l o q=>?_;obtain⟨d1,N⟩:=l.off j n
   by_cases z:u.length<zX
   ·rw[ai z]at p
    have f:=r.length;refine⟨y,d1,?_,?_⟩
    ·rw[<- f]
     have:sizeLine=16777216:=sizeLine_eq
     unfold zX at z;lia
    ·exact p c _ B _ (l.toD.trans (kq.upd d1)) N (o.off d1 N) ⟨t.len,λi w e=>let ⟨v,a,b⟩:=t.get i w e;⟨v,a,(b.mono l).monoD (kq.upd d1)⟩⟩ jY
      (((r.mono l).monoD (kq.upd d1)).append (.one (q.monoD (kq.upd d1))))
   ·rw[aj z]at p;exact p.elim
def Nb {d:Nat}{U:Ei}{T:Tg}{M:Ev}{Z:Em}(o:∀e s,X.xe e s->False)(w:X.calm=true)(v:gens[d+1]? =some ⟨tg,o8,ifs,0⟩)(y:∀g',gens[d+2]? =some g'->g'.is_async=0)
  (hw:kN X jX tg o8 U)(t:w8 X tg T)(u:Zi X ifs M)(hm:gT X oI gens sc o7 (d+1) Z)(q:∀x,foldedSetIterable o8 X.env x=pure x:=by intro _;rfl):gT X oI gens sc o7 d (Jb U T M Z):=by
 simp only[qa]at*;exact gB.imp (CP o w v y hw t u hm q) λD σ H Q ⟨φ,A,ρ,acc,Y,S,P,B,n,f,h⟩=>by refine⟨φ,A,ρ,S,P,qD (UK (zY.mp h)) (λj A1 h1 c H1 J l I i=>?_) λ_ _ z=>z⟩;obtain⟨d1,n1⟩:=l.off B n;exact jc.read i I (P.mono l) d1 n1 (f.mono l) (qD h1 (λp A2 h2 a K b zs L N E r C g=>h2 a K b zs (l.toD.trans L) N E r C g) λ_ _ z=>z)
def qg (h:zx X xr e m):gD X xr e (zN m):=by
 simp only[qa]at*;exact PE.imp h λn H Q ⟨j,A,o,S,r,h⟩=>by
  refine tM.go S r (zY.mp h) λw i b g v f l c q=>?_;cases e:zI w i with
  |none=>rw[e]at f;exact f.elim|some p=>
   rw[e]at f;obtain⟨a,y,rfl,d,E⟩:=Gp c q e;exact f b g a y l c d E
def j7 {q:jT}(h:ZS X xr e q):gD X xr e q:=by
 simp only[qa]at*;exact PE.imp h λo H Q ⟨d,A,f,S,g,h⟩=>
  ⟨d,A,f,S,g,qD h (λw t i a j D y l c p b n r=>i a j D y l c (.inl (q9.of b)) r) λ_ _ z=>z⟩
def Bd {o i:Expr}{mo mi:Ev}(ho:zx X xr o mo)(hi:zx X xr i mi)(he:zx X xr e m)
  (ha:∀b I new,augStore i b I new=(do holding [new,b,I] (setItem b I new);release [new,b,I] [];pure .next):=by intros;rfl):ko X xr (.AugAssign (.Subscript o i oG) .Add e o7) (Xy mo mi m):=by
 simp only[qa]at*;exact PS.imp (dk ho hi Bh he dr set_list ha) λD σ H ⟨φ,A,ρ,S,re,h⟩=>by
   refine tM.go S re (zY.mp h) λU A1 P H1 v1 h1 j S1 q=>?_;refine tM.go S1 (re.mono j) (qD (zY.mp h1) (λ_ _ z=>z) λ_ _ z=>z.mono j) λw A2 N H2 v2 h2 g C q2=>?_;have l:=j.trans g;cases U with
   |ref n=>cases w with
    |int k=>
     obtain rfl:=q2;dsimp only at h2
     by_cases h0:0<=k
     ·rw[ai h0]at h2
      cases c:(A2[n]?:Option O) with
      |none=>rw[c]at h2;exact h2.elim|some ob=>cases ob with
       |lst ws=>
        rw[c]at h2;dsimp only at h2;obtain⟨p,vs,rfl,f1,g1,Z⟩:=C.lst (q.mono g) c;cases E:ws[k.toNat]? with
        |none=>rw[E]at h2;exact h2.elim|some Q=>cases Q with
         |int x=>
          rw[E]at h2;dsimp only at h2;obtain⟨v,hv,Y⟩:=Z.get E;obtain rfl:=Y;refine⟨p,vs,k,_,rfl,rfl,h0,g1,hv,?_⟩;refine tM.go C (re.mono l) (qD (zY.mp h2) (λ_ _ z=>z) λ_ _ z=>z.mono l) λT M f H3 v3 a B S3 q3=>?_;have L:=l.trans B;cases T with
          |int y=>
           obtain rfl:=q3;dsimp only at a;refine⟨x,y,rfl,rfl,?_⟩;refine O4 (K:=X.K) f M H3 (.ref p) (.int k) (.int (x+y)) (.ref n) (.int k) (.int (x+y)) _ S3 ((q.mono g).mono B) rfl rfl ?_;cases r:gQ (.ref n) (.int k) (.int (x+y)) M with
           |ok u J=>
            rw[r]at a;exactλd H4 t S4=>a d H4 σ (L.trans t) S4 (re.mono (L.trans t))
           |exc z J=>exact absurd r (Mo _ _ _ _ z J)|bad=>rw[r]at a;exact a.elim
          |_=>exact a.elim
         |_=>rw[E]at h2;exact h2.elim
       |_=>rw[c]at h2;exact h2.elim
     ·rw[aj h0]at h2;exact h2.elim
    |_=>exact h2.elim
   |_=>cases w<;>exact h2.elim
def zq (g:ko X xr st m1)(o:yR X xr oK m2):yR X xr (st::oK) (zy m1 m2):=by
 simp only[qa]at*;exact yV.imp (Bf g o) λD q H ⟨i,A,j,S,n,h⟩=>by
   refine⟨i,A,j,S,n,qD (zY.mp h) (λf p g=>?_) λ_ _ z=>z⟩;cases f with|nx e=>exactλa d b l c r=>⟨a,p,e,c,r,qD g (λ_ _ z=>z.mono l) λ_ _ z=>z.mono l⟩|rt w=>exact g|bk e=>exact g|ct e=>exact g
def yy (f:zx X xr e m)(b:swapsWith e none o7.line X.env=pure false:=by rfl):ko X xr (.Expr e o7) (yx m):=by simp only[qa]at*;exact PS.imp (AU f b) λD d H ⟨j,A,n,S,r,h⟩=>tM.go S r (zY.mp h) λw o a i v g l c q=>g a i d l c (r.mono l)
def jl {mi:Ei}{tw:Tg}(hp:PassesOwn (model X.prog X.w) X.A X.env X.xe)(hc:X.calm=true)(hi:kN X xr tg o8 mi)(hg:w8 X tg tw)(hb:yR X xr body m1)
  (hs:∀x,foldedSetIterable o8 X.env x=pure x:=by intro _;rfl):ko X xr (.For tg o8 body [] o7) (jD mi tw m1):=by
 simp only[qa]at*;exact PS.imp (dy hp hc hi hg hb hs) λD σ H ⟨φ,A,ρ,S,re,h⟩=>by
   refine⟨φ,A,ρ,S,re,qD (zY.mp h) (λj A1 h1 e H1 J P S1 jr=>?_) λ_ _ z=>z⟩;refine⟨λi f c I=>LK X.K xr j (turn tw m1) D e H1 f i c I,
    ⟨j.len,e,A1,ρ,.refl,S1,re.mono P,qD h1 (λ_ _ z=>z.mono P) λ_ _ z=>z.mono P⟩,?_⟩
   rintro i f M Y ⟨b,A2,q,u,U,t,h2⟩
   obtain⟨j1,j2⟩:=jr i b Y A2 ⟨u.ex,u.tp,u.fz⟩ U;cases E:j.at_ A2 i with
   |none=>cases f<;>(unfold j3 at h2;rw[E]at h2;exact h2.elim)|some o=>
    cases o with
    |none=>
     left
     refine⟨j2 E,?_⟩;cases f<;>(unfold j3 at h2;rw[E]at h2;exact h2 b Y M .refl U t)
    |some w=>
     right
     obtain⟨go,yl⟩:=j1 w E;cases f with
     |zero=>unfold j3 at h2;rw[E]at h2;exact h2.elim|succ f=>
      unfold j3 at h2;rw[E]at h2;refine⟨go,λc I=>LK X.K xr j (turn tw m1) D e H1 f (i+1) c I,λc I z=>⟨f,bA _,z⟩,λx H3 y=>?_⟩;obtain⟨L,T,q3⟩:=yl x H3 y;have v:=zY.mp h2;unfold turn at v;cases Q:tw w q with
      |none=>rw[Q]at v;exact v.elim|some p=>
       rw[Q]at v;refine⟨b,A2,q,w,p,T,t.mono L,q3,Q,λσ3 N=>?_⟩;refine⟨b,A2,p,T,N,qD v (λfl Z C=>?_) λ_ _ z=>z.mono L⟩;cases fl with|nx d=>exactλa B g l n r=>⟨a,Z,d,(u.trans L).trans l,n,r,qD C (λ_ _ z=>z.mono (L.trans l)) λ_ _ z=>z.mono (L.trans l)⟩|ct d=>exactλa B g l n r=>⟨a,Z,d,(u.trans L).trans l,n,r,qD C (λ_ _ z=>z.mono (L.trans l)) λ_ _ z=>z.mono (L.trans l)⟩|bk d=>exactλa B g l n r=>C a B g (L.trans l) n r|rt w4=>exactλa B v4 l n q4=>C a B v4 (L.trans l) n q4
def jV {n b:cg}(e:yX X xr c mc)(g:yR X xr n m1)(f:yR X xr b m2):ko X xr (.If c n b o7) (jB mc m1 m2):=by
 simp only[qa]at*;exact PS.imp (c9 e g f) λD q H ⟨p,A,j,S,r,h⟩=>by
   refine tT.go S r (zY.mp h) λw o i=>?_;cases w with
   |bl k=>
    refine⟨k,rfl,λa t l d=>?_⟩;cases k with|true=>rw[ai rfl];exact⟨a,o,j,d,r.mono l,qD i (λ_ _ z=>z.mono l) λ_ _ z=>z.mono l⟩|false=>rw[aj aH];exact⟨a,o,j,d,r.mono l,qD i (λ_ _ z=>z.mono l) λ_ _ z=>z.mono l⟩
   |non=>cases i|int _=>cases i|str _=>cases i|tup _=>cases i|ref _=>cases i|clo _ _ _=>cases i|xc _=>cases i|fn _=>cases i
def zE:yR X xr [] zV:=by simp only[qa]at*;exact yV.imp AQ λD b H ⟨a,A,c,S,r,h⟩=>h a H b .refl S r
def qo (c:zx X xr e m):ko X xr (.Return (some e) o7) (wG m):=by simp only[qa]at*;exact PS.imp (c7 c) λD i H ⟨g,A,j,S,r,h⟩=>tM.go S r (zY.mp h) λw n a f v d l b q=>d a f v l b q
def B4 (i:Nat){p:Pos}(b:X.N.Nodup)(c:zx X xr e m)(a:X.N[i]? =some x:=by rfl)(h:Loc X.env.scope x:=by first|exact Or.inl rfl|exact Or.inr rfl)(H:swapsWith e (some (.Name x p)) o7.line X.env=pure false:=by rfl)
  (f:QO X x:=by first|exact .inl rfl|exact .inr rfl):ko X xr (.Assign [.Name x p] e o7) (qd i m):=by
 simp only[qa]at*;exact PS.imp (df b a h c H f) qd.read
def Qi (i:Nat){q:Ei}{t:Tg}{M:Ev}{E:Em}{P a:Pos}(o:Nat)(C:bW)(j:X.N.Nodup)
  (e:X.calm=true)(S:gH X sc)(p:Z5 X.N N sc o C=true)(r:kN X xr tg o8 q)
  (n:∀s H fp,w8 (jI X N sc s H fp yh) tg t/\Zi (jI X N sc s H fp yh) ifs M/\gT (jI X N sc s H fp yh) oI (⟨tg,o8,ifs,0⟩::gs) sc o7 0 E)
  (b:X.N[i]? =some x:=by rfl)(c:X.env.scope.names.lookup x=some .local:=by rfl)
  (w:swapsWith (.ListComp oI (⟨tg,o8,ifs,0⟩::gs) sc o7) (some (.Name x P)) a.line X.env=pure true:=by rfl)
  (f:∀g',gs[0]? =some g'->g'.is_async=0:=by intro _ h;cases h<;>rfl)
  (d:∀x,foldedSetIterable o8 X.env x=pure x:=by intro _;rfl):ko X xr (.Assign [.Name x P] (.ListComp oI (⟨tg,o8,ifs,0⟩::gs) sc o7) a) (qd i (jW (qy o C q t M E))):=by
 simp only[qa]at*;exact PS.imp (L2.EK (g:=tG X.K t) (ti:=tT X.K jX M) (tm:=tE X.K E) j b c w e S p f r n d) λD l H h=>qy.read l H _ (jW.read l H _ (qd.read D l H h))
def Q1 (h:Zn X xr e m):yX X xr e m:=by simp only[qa]at*;exact PW.pt h
def yo {g:W->W->Hx->R W}(h:gh X op g)(c:zx X xr a ma)(H:zx X xr b mb)(e:op≠.In:=by decide)(d:op≠.NotIn:=by decide):yX X xr (.Compare a [op] [b] o7) (zh g ma mb):=by simp only[qa]at*;exact let ⟨r,f,a2,A⟩:=h.ex;eT f a2 A c H (h.mks b e d)
def f9 {o:CmpOp}{g l:W->W->Hx->R W}(h:gh X op g)(p:gh X o l)(e:zx X xr a ma)(d:zx X xr b mb)(H:zx X xr c mc)(n:lastMarks [op,o] [b,c]=false:=by with_unfolding_all rfl):
  yX X xr (.Compare a [op,o] [b,c] o7) (gI g l ma mb mc):=by
 simp only[qa]at*;exact let ⟨r,q,a2,A⟩:=h.ex;let ⟨j,i,f,B⟩:=p.ex;Bc q a2 A i f B e d H n
def Zb (d:yX X xr a ma):yX X xr (.UnaryOp .Not a o7) (kh ma):=by
 simp only[qa]at*;exact PT.imp (cR d) λn H Q ⟨j,A,o,S,r,h⟩=>by
   refine tT.go S r (zY.mp h) λw p g=>?_;cases w with|bl k=>obtain⟨b,e,q⟩:=g;cases e;exact⟨k,rfl,λc i l f=>q c i l f⟩|non=>cases g|int _=>cases g|str _=>cases g|tup _=>cases g|ref _=>cases g|clo _ _ _=>cases g|xc _=>cases g|fn _=>cases g
def wz (h:zx X xr e m)(a:∀w,isTrue e X.env w=(do let v <- w;standAt e.pos;holding [v] (truthy v)):=by intro _;rfl):yX X xr e m:=by simp only[qa]at*;exact PT.imp (cN h a) λb H Q h=>h.toM
def wu:Zi X [] (zW (.bl true)):=by
 simp only[qa]at*;exactλp s c H Q I ⟨a,A,d,S,r,h⟩=>C5 p s c H Q I (by obtain⟨b,e,q⟩:=h;cases e;exact q a H .refl S)
def Uz (h:yX X jX c mc):Zi X [c] mc:=by simp only[qa]at*;exact CG h
def U6 {r:bZ}(g:yX X xr a ma)(f:Zn X xr (.BoolOp .And (b::r) o7) mb):Zn X xr (.BoolOp .And (a::b::r) o7) (wF ma mb):=by
 simp only[qa]at*;exact PW.imp (pw_and g f) λp H Q ⟨o,A,t,S,j,h⟩=>by
   refine tT.go S j (zY.mp h) λw u i=>?_;cases w with
   |bl k=>
    refine⟨k,rfl,λc n l d=>?_⟩;cases k with|true=>rw[ai rfl];exact tT.mono d l j i|false=>rw[aj aH];obtain⟨b,e,q⟩:=i;cases e;exact q c n l d
   |non=>cases i|int _=>cases i|str _=>cases i|tup _=>cases i|ref _=>cases i|clo _ _ _=>cases i|xc _=>cases i|fn _=>cases i
def UA (h:yX X xr a ma):Zn X xr (.BoolOp .And [a] o7) ma:=by simp only[qa]at*;exact pw_and1 h
def Wg {r:bZ}(g:yX X xr a ma)(f:Zn X xr (.BoolOp .Or (b::r) o7) mb):Zn X xr (.BoolOp .Or (a::b::r) o7) (ZR ma mb):=by
 simp only[qa]at*;exact PW.imp (pw_or g f) λp H Q ⟨o,A,t,S,j,h⟩=>by
   refine tT.go S j (zY.mp h) λw u i=>?_;cases w with
   |bl k=>
    refine⟨k,rfl,λc n l d=>?_⟩;cases k with|false=>rw[aj aH];exact tT.mono d l j i|true=>rw[ai rfl];obtain⟨b,e,q⟩:=i;cases e;exact q c n l d
   |non=>cases i|int _=>cases i|str _=>cases i|tup _=>cases i|ref _=>cases i|clo _ _ _=>cases i|xc _=>cases i|fn _=>cases i
def KR (h:yX X xr a ma):Zn X xr (.BoolOp .Or [a] o7) ma:=by simp only[qa]at*;exact pw_or1 h
def SH {K:Frag}{v:Stmt}{fd:FuncData}{ps:bX}{k:Nat}{m:Ex}(F:wm K x x v f fd)(M:mg x=some (.ref f))(S:wy N ps (qj v))
  (i:∀(kV D L:Value)(T:cf)(c ct:Value)(U:bS),U.length=ps.length->bindArgs (fnOf x x (Za v) (j6 v) (qj v) .none kV D L T c ct) ⟨U,[]⟩=pure (ps.zip U))
  (a:∀(c:Value)(A:Around)(t:b8)(s:Shared)(H:Hp)(E:XK),jd k (A.deeper (envOfC x (qj v) s.heap.objs.size f c))->yR (kg kO P w K mg base N x (qj v) f c A t s H E).nox jX (j6 v) m):
  qR P w K mg base (k+1) x ps.length (qz N.length m):=by
 simp only[qa]at*;refine⟨f,fd,ps,?_,M,F.kp,F.binds i⟩;refine F.ok S (λJ H Q E h=>h.len) λc A t s H J Q E g ⟨q,B,I,z,n,r,h⟩=>⟨_,a c A t s H E g,?_⟩;refine⟨B,I,z.map some++List.replicate (N.length-z.length) none,n,RE.start r,?_⟩;have u:=zY.mp h;show R.post _ (FB K B H _) _;cases e:m (z.map some++List.replicate (N.length-z.length) none) I with
 |ok j X=>
  rw[e]at u;cases j with|rt w=>exact u|nx C=>exactλb p d l o _=>u b p .non l o rfl|bk C=>exact u.elim|ct C=>exact u.elim
 |exc y X=>
  rw[e]at u;exact u.elim
 |bad=>rw[e]at u;exact u.elim
def wt (j:zx X xr a ma)(J:zx X xr b mb)(i:ji b [] X:=by rfl)
  (e:attributeBase a "append" X.env (eval a X.env)=eval a X.env:=by rfl)
  (w:((backTo oD (starEach [b] X.env)).all (λx=>!x.1)&&(backToKw oD (keywordEach [] X.env)).all (λx=>x.1.isSome)
   && decide ([b].length+([]:cb).length+(if ([]:cb).isEmpty then 0 else 1)<30))=true:=by rfl)(h:(oH.endLine==oD.line)=true:=by rfl):
  zx X xr (.Call (.Attribute a "append" oH) [b] [] oD) (j4 yk ma mb):=by
 simp only[qa]at*;exact XJ PySem.F.slot_list_append PySem.F.type_list_append P8 Di (λC A H x y u v Q S g q p=>by
   unfold yk at p;cases u with
   |ref n=>
    dsimp only at p;cases E:A[n]? with
    |none=>rw[E]at p;exact p.elim|some o=>cases o with
     |lst t=>
      rw[E]at p;dsimp only at p
      by_cases c:t.length<zX
      ·rw[ai c]at p
       obtain⟨l,D,rfl,I,B,r⟩:=S.lst g E;refine⟨l,D,y,rfl,rfl,B,?_,?_⟩
       ·rw[<- r.length]
        have:sizeLine=16777216:=sizeLine_eq
        unfold zX at c;lia
       ·have L:Le X.K C H C (upd H l (.lst (D++[y]))):=Le.upd I (λM z=>by rw[B]at z;cases z) (λ_ _ z=>by rw[B]at z;cases z)
        obtain⟨f,d⟩:=S.write (o:=.lst t) (o':=.lst (t++[v])) E rfl rfl I ⟨_,jY,(r.mono L).append (.one (q.mono L))⟩;exact p _ _ _ f d rfl
      ·rw[aj c]at p;exact p.elim
     |_=>rw[E]at p;exact p.elim
   |_=>exact p.elim) j J i e w h
def Ut (c:X.mg "int"=none)(a:zx X xr e m)(h:Gl X "int":=by rfl)(d:ji e [] X:=by rfl):zx X xr (.Call (.Name "int" p) [e] [] o7) (gE M9 m):=by
 simp only[qa]at*;exact fw DO (λw A=>by unfold M9;split;exact yf;exact yf;exact jh) (λb A H x u Q S q p=>by
   cases u with|int i=>obtain rfl:=q;exact .inl ⟨i,rfl,p b H _ .refl S rfl⟩|bl k=>obtain rfl:=q;exact .inr ⟨k,rfl,p b H _ .refl S rfl⟩|_=>exact p.elim) c (by rfl) a h (by decide) (by decide) d (by rfl)
def Bb (e:X.calm=true)(w:X.mg "max"=none)(o:zx X xr a ma)(n:zx X xr b mb)(l:Gl X "max":=by rfl)(B:ji a [b] X:=by rfl)(z:ji b [] X:=by rfl)(h:wR o7 [b] X:=by rfl):
  zx X xr (.Call (.Name "max" p) [a,b] [] o7) (zh Sd ma mb):=by
 simp only[qa]at*;exact MN (DQ e) QC (λt A H x y u v Q S d c p=>by
   obtain⟨i,j,r,E,q⟩:=Qt (K:=X.K) (f:=λi j=>.int (if j > i then j else i)) (g:=λi j=>.int (if j > i then j else i)) (λ_ _ _ _=>rfl) t A H x y u v Q S d c p;subst r;subst E;exact⟨i,j,rfl,q⟩) w (by rfl) o n l (by decide) (by decide) B z h
def DW (D:zx X xr a ma)(Y:zx X xr b mb)(C:ji b [] X:=by rfl)
  (e:attributeBase a "pop" X.env (eval a X.env)=eval a X.env:=by rfl)
  (c:((backTo oD (starEach [b] X.env)).all (λx=>!x.1)&&(backToKw oD (keywordEach [] X.env)).all (λx=>x.1.isSome)
   && decide ([b].length+([]:cb).length+(if ([]:cb).isEmpty then 0 else 1)<30))=true:=by rfl)(h:(oH.endLine==oD.line)=true:=by rfl):
  zx X xr (.Call (.Attribute a "pop" oH) [b] [] oD) (j4 Z1 ma mb):=by
 simp only[qa]at*;exact XJ PySem.F.slot_list_pop PySem.F.type_list_pop BM BK (λN A H x y u v Q S B t p=>by
   unfold Z1 at p;cases u with
   |ref n=>cases v with
    |int i=>
     obtain rfl:=t;dsimp only at p;cases E:A[n]? with
     |none=>rw[E]at p;exact p.elim|some o=>cases o with
      |lst L=>
       rw[E]at p;dsimp only at p
       by_cases d:jv i=true
       ·rw[ai d]at p
        obtain⟨J,I⟩:=QY d;cases g:seqIndex? i L.length with
        |none=>rw[g]at p;exact p.elim|some k=>
         rw[g]at p;dsimp only at p;cases f:L[k]? with
         |none=>rw[f]at p;exact p.elim|some w=>
          rw[f]at p;obtain⟨l,P,rfl,T,M,r⟩:=S.lst B E;obtain⟨y,h1,Z⟩:=r.get f;have U:Le X.K N H N (upd H l (.lst (P.eraseIdx k))):=Le.upd T (λxs z=>by rw[M]at z;cases z) (λ_ _ z=>by rw[M]at z;cases z)
          obtain⟨j,q⟩:=S.write (o:=.lst L) (o':=.lst (L.eraseIdx k)) E rfl rfl T ⟨_,jY,(r.erase k).mono U⟩;exact⟨l,P,i,k,y,rfl,rfl,M,by lia,by lia,by rw[<- r.length];exact g,h1,p _ _ _ j q (Z.mono j)⟩
       ·rw[aj d]at p;exact p.elim
      |_=>rw[E]at p;exact p.elim
    |_=>exact p.elim
   |_=>cases v<;>exact p.elim) D Y C e c h
def Nn (H:zx X xr a ma)(h:zx X xr b mb):zx X xr (.BinOp a .Pow b o7) (zh Lo ma mb):=by simp only[qa]at*;exact ZG dF Wq (Wd ND λ_ _ _ _=>rfl) H h
def YI {x j}:zx X xr (.Constant (.str x) j o7) (zW (.str x)):=by simp only[qa]at*;exact PE.imp cM λb H Q ⟨a,A,c,S,r,h⟩=>h a H _ .refl S rfl
def Nl (H:zx X xr a ma)(h:zx X xr b mb):zx X xr (.BinOp a .BitXor b o7) (zh eZ ma mb):=by simp only[qa]at*;exact ZG dM QC (Qt λ_ _ _ _=>rfl) H h
def BC {q:jT}(u:X.mg "list"=none)(d:gD X xr e q)(g:Gl X "list":=by rfl)(j:ji e [] X:=by rfl):
  zx X xr (.Call (.Name "list" p) [e] [] o7) (jW q):=by
 simp only[qa]at*;exact PE.imp (KH Fx g u (by rfl) (jt d yn j) (by decide) (by decide) j (by rfl)) λx H Q ⟨n,A,o,S,t,h⟩=>by refine⟨n,A,o,S,t,qD (zY.mp h) (λB D v b C a y L i z r=>?_) λ_ _ z=>z⟩;refine⟨a,y,rfl,z,λl c=>?_⟩;obtain⟨w,a2,f⟩:=Q8 i c r;exact v _ _ _ (L.trans w) a2 f
def G4 {o i:Expr}{M c:Ev}(d:zx X xr e m)(H:zx X xr o M)(a:zx X xr i c)
  (h:swapsWithSole [.Subscript o i oG] e o7.line X.env=pure false:=by rfl)(w:swappedStores [.Subscript o i oG] e X.env=pure none:=by rfl)
  (f:(assignEach [.Subscript o i oG] X.env).map (·.2)=[assign (.Subscript o i oG) X.env]:=by rfl)
  (b:∀v,assign (.Subscript o i oG) X.env v=(do
   let ov <- holding [v] (eval o X.env)
   let iv <- holding [v,ov] (eval i X.env)
   standAt oG
   holding [v,ov,iv] (setItem ov iv v)
   release [v,ov,iv] []):=by intro _;rfl):ko X xr (.Assign [.Subscript o i oG] e o7) (YS gQ m M c):=by
 simp only[qa]at*;exact CA set_list Mo O4 d H a h w f b
def Dh (f:Nat)(C:PassesOwn (model X.prog X.w) X.A X.env X.xe)(E:yX X xr c mc)(I:yR X xr body m1):ko X xr (.While c body [] o7) (eW f mc m1):=by
 simp only[qa]at*;exact PS.imp (CN C E I) λD σ H ⟨Z,A,ρ,S,re,h⟩=>by
   refine⟨λf i e=>∃a Y d,Le X.K Z H a e/\zL X.K a Y e/\RE X.K a e d i/\(QG mc m1 f d Y).post (FB X.K a e D) (EB X.K a e xr),⟨f,Z,A,ρ,.refl,S,re,h⟩,?_⟩
   rintro f v U ⟨a,Y,d,x,M,o,h2⟩
   cases f with
   |zero=>exact h2.elim|succ f=>
    unfold QG at h2;refine tT.go M o (zY.mp h2) λw P g=>?_;cases w with
    |bl k=>
     refine⟨k,rfl,λq N l y=>?_⟩;cases k with
     |true=>
      rw[ai rfl];refine⟨λi e=>∃a Y d,Le X.K Z H a e/\zL X.K a Y e/\RE X.K a e d i/\(QG mc m1 f d Y).post (FB X.K a e D) (EB X.K a e xr),λi e z=>⟨f,bA _,z⟩,?_⟩;refine⟨q,P,d,y,o.mono l,qD (zY.mp g) (λJ B u=>?_) λ_ _ z=>z.mono l⟩;cases J with|nx j=>exactλb t n L p r=>⟨b,B,j,(x.trans l).trans L,p,r,qD u (λ_ _ z=>z.mono (l.trans L)) λ_ _ z=>z.mono (l.trans L)⟩|ct j=>exactλb t n L p r=>⟨b,B,j,(x.trans l).trans L,p,r,qD u (λ_ _ z=>z.mono (l.trans L)) λ_ _ z=>z.mono (l.trans L)⟩|bk j=>exactλb t n L p r=>u b t n (l.trans L) p r|rt T=>exactλb t v4 L p Q=>u b t v4 (l.trans L) p Q
     |false=>
      rw[aj aH];exact g q N v l y (o.mono l)
    |non=>cases g|int _=>cases g|str _=>cases g|tup _=>cases g|ref _=>cases g|clo _ _ _=>cases g|xc _=>cases g|fn _=>cases g
end
end Mi
variable {fN:(PySem.Obj->PySem.Addr->PySem.Obj->List L2.V->Prop)->Mi.Fn}{mr:Mi.Ea}{mi:Mi.Ei}{em:Mi.Em}{ρ:Mi.En}{me:Mi.Ev}{A A1 B:Mi.Hx}{ws:List Mi.W}{tw:Mi.Tg}{g:Mi.W->Mi.W->Mi.Hx->Mi.R Mi.W}{xr:Mi.XR}{j:Mi.jA}{q:Mi.jT}
set_option maxHeartbeats 4000000
namespace Mi
open PySem L2
section
variable {ρ1:En}{A2:Hx}{w x y:W}{m ma mb mc:Ev}{m1 m2:Ex}{f:Fn}
def zj (h:ρ[i]? =some (some w)):zS i ρ A=.ok w A:=by unfold zS;rw[h]
def zR:zW w ρ A=.ok w A:=rfl
def zB (H:ma ρ A=.ok x A1)(h:mb ρ A1=.ok y A2):zh g ma mb ρ A=g x y A2:=by unfold zh;rw[H,zK,h,zK]
def gg {g:W->Hx->R W}(h:ma ρ A=.ok x A1):gE g ma ρ A=g x A1:=by unfold gE;rw[h,zK]
def kR {k:Bool}(h:ma ρ A=.ok (.bl k) A1):kh ma ρ A=.ok (.bl (!k)) A1:=by unfold kh;rw[h,zK]
def Z2 (h:ma ρ A=.ok (.bl true) A1):wF ma mb ρ A=mb ρ A1:=by unfold wF;rw[h,zK]
def JJ (h:ma ρ A=.ok (.bl false) A1):wF ma mb ρ A=.ok (.bl false) A1:=by unfold wF;rw[h,zK]
def Mv (h:ma ρ A=.ok (.bl true) A1):ZR ma mb ρ A=.ok (.bl true) A1:=by unfold ZR;rw[h,zK]
def Wn (h:ma ρ A=.ok (.bl false) A1):ZR ma mb ρ A=mb ρ A1:=by unfold ZR;rw[h,zK]
def zT {a:Ea}(h:a ρ A=.ok ws A1):zP f a ρ A=f ws A1:=by unfold zP;rw[h,zK]
def zJ:zr ρ A=.ok [] A:=rfl
def zu {r:Ea}(H:ma ρ A=.ok x A1)(h:r ρ A1=.ok ws A2):zi ma r ρ A=.ok (x::ws) A2:=by unfold zi;rw[H,zK,h,zK]
def gG {a:Ea}(h:a ρ A=.ok ws A1):qP a ρ A=.ok (.tup ws) A1:=by unfold qP;rw[h,zK]
def jx {a:Ea}(h:a ρ A=.ok ws A1):qA a ρ A=.ok (.ref A1.length) (A1++[.lst ws]):=by unfold qA;rw[h,zK]
def zw (h:m1 ρ A=.ok (.nx ρ1) A1):zy m1 m2 ρ A=m2 ρ1 A1:=by unfold zy;rw[h,zK]
def qk (h:m1 ρ A=.ok (.rt w) A1):zy m1 m2 ρ A=.ok (.rt w) A1:=by unfold zy;rw[h,zK]
def qC:zV ρ A=.ok (.nx ρ) A:=rfl
def qi (h:m ρ A=.ok w A1):qd i m ρ A=.ok (.nx (ρ.set i (some w))) A1:=by unfold qd;rw[h,zK]
def wW (h:m ρ A=.ok w A1):yx m ρ A=.ok (.nx ρ) A1:=by unfold yx;rw[h,zK]
def qN (h:m ρ A=.ok w A1):wG m ρ A=.ok (.rt w) A1:=by unfold wG;rw[h,zK]
def yP (h:mc ρ A=.ok (.bl true) A1):jB mc m1 m2 ρ A=m1 ρ A1:=by unfold jB;rw[h,zK]
def jK (h:mc ρ A=.ok (.bl false) A1):jB mc m1 m2 ρ A=m2 ρ A1:=by unfold jB;rw[h,zK]
def jy (h:mi ρ A=.ok j A1):jD mi tw m1 ρ A=j3 j (turn tw m1) j.len 0 ρ A1:=by unfold jD;rw[h,zK]
def jO (h:tw w ρ=some ρ1):turn tw m1 w ρ A=m1 ρ1 A:=by unfold turn;rw[h]
def Uj {S:W->Ex}(h:j.at_ A i=some none):j3 j S n i ρ A=.ok (.nx ρ) A:=by
 cases n with|zero=>unfold j3;rw[h]|succ n=>unfold j3;rw[h]
def GJ {S:W->Ex}(h:j.at_ A i=some (some w))(H:S w ρ A=.ok (.nx ρ1) A1):j3 j S (n+1) i ρ A=j3 j S n (i+1) ρ1 A1:=by rw[j3,h];dsimp only;rw[H,zK]
def yI {k:Int}(h:m ρ A=.ok (.int k) A1)(H:jv k=true):j8 m ρ A=.ok (jQ 0 k.toNat) A1:=by unfold j8;rw[h,zK];dsimp only;rw[ai H]
def ym {l:Int}{k:Nat}(h:i<k):(jQ l k).at_ A i=some (some (.int (l+i))):=by unfold jQ;dsimp only;rw[ai h]
def yj {l:Int}{k:Nat}(h:¬i<k:=by lia):(jQ l k).at_ A i=some none:=by unfold jQ;dsimp only;rw[aj h]
def qV (h:m1 (ws.map some++List.replicate (n-ws.length) none) A=.ok (.rt w) A1):qz n m1 ws A=.ok w A1:=by unfold qz;rw[h];rfl
def ZF {w:W}(n:qQ ws=true)(H:w.nr=true)(h:f ws []=.ok w A1):iso f ws A=.ok w A:=by
 unfold iso;rw[ai n,h];cases w with|ref k=>cases H|_=>dsimp only;rw[ai H]
end
end Mi
set_option maxHeartbeats 4000000
namespace Mi
open PySem L2
def CS {p:Ev}{c:En}{N:Nat}{f g:Nat->W}{keep:Nat->Bool}(t:∀i,i<N->j.at_ A i=some (some (f i)))(d:j.at_ A N=some none)
  (b:∀i,i<N->p (some (f i)::c) A=.ok (.bl (keep i)) A)(q:∀i,i<N->keep i=true->me (some (f i)::c) A=.ok (g i) A):
  ∀(n i:Nat)(x:Option W)(o:List W),i+n=N->o.length+n<=zX->∃y,jc j (zM 0) p (qe me) n i (x::c) o A=.ok (y::c,o++((List.range' i n).filter keep).map g) A:=by
 intro n
 induction n with
 |zero=>
  intro i x o h _
  have:i=N:=by lia
  subst this;refine⟨x,?_⟩;unfold jc;rw[d];simp
 |succ n I=>
  intro i x o h l;have H:i<N:=by lia
  rw[jc,t i H];dsimp only[zM,List.set];rw[b i H,zK];rw[range'_succ];cases a:keep i with
  |true=>
   dsimp only;obtain⟨y,e⟩:=I (i+1) (some (f i)) (o++[g i]) (by lia) (by rw[au,aU];lia)
   refine⟨y,?_⟩;have E:qe me (some (f i)::c) o A=.ok (some (f i)::c,o++[g i]) A:=by unfold qe;rw[q i H a,zK,ai (by lia)]
   rw[E,zK];dsimp only;rw[e,List.filter_cons_of_pos a,aS,aP]
   rfl
  |false=>
   dsimp only;obtain⟨y,e⟩:=I (i+1) (some (f i)) o (by lia) (by lia)
   exact⟨y,by rw[e,List.filter_cons_of_neg (by rw[a];exact aH)]⟩
def Pw {ifs:Ev}{N:Nat}{item g:Nat->W}{keep:Nat->Bool}(f:mi ρ A=.ok j A)(a:j.len=N)(d:N<=zX)
  (H:∀i,i<N->j.at_ A i=some (some (item i)))(h:j.at_ A N=some none)(b:∀i,i<N->ifs (some (item i)::cap.map λi=>(ρ[i]?).join) A=.ok (.bl (keep i)) A)
  (l:∀i,i<N->keep i=true->me (some (item i)::cap.map λi=>(ρ[i]?).join) A=.ok (g i) A):
  qy 1 cap mi (zM 0) ifs (qe me) ρ A=.ok (((List.range N).filter keep).map g) A:=by
 obtain⟨y,e⟩:=CS H h b l N 0 none [] (zero_add N) (by simpa using d)
 unfold qy;rw[f,zK,a];have c:QE 1 cap ρ=none::cap.map λi=>(ρ[i]?).join:=rfl;rw[c,e,bN,<- range_eq_range']
 rfl
def w9 {N:Nat}{item g:Nat->W}(d:mi ρ A=.ok j A)(a:j.len=N)(c:N<=zX)
  (t:∀i,i<N->j.at_ A i=some (some (item i)))(H:j.at_ A N=some none)(e:∀i,i<N->me (some (item i)::cap.map λi=>(ρ[i]?).join) A=.ok (g i) A):
  qy 1 cap mi (zM 0) (zW (.bl true)) (qe me) ρ A=.ok ((List.range N).map g) A:=by
 have h:=Pw (ifs:=zW (.bl true)) (keep:=λ_=>true) d a c t H (λ_ _=>rfl) λi b _=>e i b;have f:(List.range N).filter (λ_=>true)=List.range N:=List.filter_eq_self.mpr λ_ _=>rfl;rw[f]at h;exact h
def jP {g:List W->Hx->R W}(h:q ρ A=.ok ws A1):mQ g q ρ A=g ws A1:=by unfold mQ;rw[h,zK]
def yZ (h:q ρ A=.ok ws A1):jW q ρ A=.ok (.ref A1.length) (A1++[.lst ws]):=by unfold jW;rw[h,zK]
def yc {m:Ev}{w:W}(h:m ρ A=.ok w A1)(H:zI w A1=some ws):zN m ρ A=.ok ws A1:=by unfold zN;rw[h,zK,H]
open PySem PySem.Spec PyProof.Rows L2
inductive zeJ (H:Hp)(h g:Heap)(e:Addr)(vs:Array Value):Prop
 |mk (T:Addr) (oT:Obj) (ts:Array Value) (h1:vs[1]? =some (.ref T)) (ne:T≠e) (ng:g.get? T=none) (nH:H T=none) (hT:h.get? T=some oT) (hd:oT.data=.fields ts) (h3:ts[3]? =some .none)
inductive gL (H:Hp)(h g:Heap)(e:Addr)(C:Value):Prop
 |mk (ng:g.get? e=none) (nH:H e=none) (oe:Obj) (vs:Array Value) (a0:Value) (he:h.get? e=some oe) (hc:oe.cls=C) (hd:oe.data=.fields vs) (h0:vs[0]? =some a0) (h1:vs[1]? =some .none∨zeJ H h g e vs)
inductive Tr (h:Heap)(e:Addr):Prop
 |mk (oe:Obj) (vs:Array Value) (T:Addr) (he:h.get? e=some oe) (hd:oe.data=.fields vs) (h1:vs[1]? =some (.ref T))
section
variable {A:Around}{s:Shared}{outer:b8}{L e:Addr}{C:Value}{g:Heap}
theorem frames_at {B:Heap}:∀{l:b8},s.heap.FunFrames base l->(∀b∈qJ l,B.get? b=none)->s.heap.FunFrames B l
 |[],_,_=>trivial|e::r,⟨c,⟨L,o,hf,hn,a,hd⟩,H⟩,h=>⟨c,⟨L,o,hf,h L (by unfold qJ;rw[bb,hf];exact aG ..),a,hd⟩,frames_at H λb d=>h b (by unfold qJ;rw[bb,hf];exact aA _ d)⟩
def Mj {Q:Unit->Shared->Prop}(y:A.frames=some (env::outer))(hf:env.frame=some L)(I:s.heap.FunFrames base (env::outer))(x:gL H s.heap g e C)
  (tr:∀b u,H b=some u->∃o,s.heap.get? b=some o)(th:∀b o,g.get? b=some o->∃o',s.heap.get? b=some o')
  (hQ:∀h',(∀b o,s.heap.get? b=some o->b∉qJ (env::outer)->((∃o',g.get? b=some o')∨∃u,H b=some u)->h'.get? b=some o)->(∀b o,s.heap.get? b=some o->b∈qJ (env::outer)->∃Y,h'.get? b=some { o with slots:=Y })->
   gL H h' g e C->Tr h' e->Q () { s with heap:=h' }):wpAny M A (leaving env (.ref e)) Q E s:=by
 obtain⟨K,S,oe,vs,a0,he,hc,hd,h0,h1⟩:=x;have fin:∀(d:bU),(∀b∈qJ (env::outer),b∈d)->(∀b∈d,b∉qJ (env::outer)->g.get? b=none/\H b=none)->∀h',Heap.LeftW (hideAll s.heap d) (env::outer) e C a0 s.heap h'->Q () { s with heap:=h' }:=by
  intro d hi1 w h' ⟨st,ff,r,us⟩;refine hQ h' (λb o h nb hx=>?_) (λb o h mb=>?_) ?_ (by obtain⟨i,v,T,D,t,j,_,l,p,_⟩:=r;exact⟨i,v,T,j,l,p⟩)
  ·refine st b o (bJ d h λhm=>?_)
   obtain⟨z1,z2⟩:=w b hm nb;rcases hx with ⟨o',q⟩|⟨u,q⟩
   ·rw[z1]at q;cases q
   ·rw[z2]at q;cases q
  ·obtain⟨_,o',a,f⟩:=I.mem mb
   rw[h]at a;cases a;exact us b o h f
  ·obtain⟨i,v,T,D,t,j,⟨N,X⟩,l,p,B,n,hT,c,U⟩:=r
   have nT:T∉qJ (env::outer):=λhm=>by obtain⟨_,o',a,f⟩:=I.mem hm;obtain⟨Y,z⟩:=us T o' a f;rw[hT]at z;cases z;exact f t c
   have both:g.get? T=none/\H T=none:=by
    cases q:s.heap.get? T with
    |some o=>
     by_cases hm:T∈d
     ·exact w T hm nT
     ·rw[bJ d q hm]at B;cases B
    |none=>
     constructor
     ·cases z:g.get? T with|none=>rfl|some o=>obtain⟨o',Z⟩:=th T o z;rw[q]at Z;cases Z
     ·cases z:H T with|none=>rfl|some u=>obtain⟨o',Z⟩:=tr T u z;rw[q]at Z;cases Z
   exact⟨K,S,i,v,a0,j,N,l,X,.inr ⟨T,D,t,p,n,both.1,both.2,hT,c,U⟩⟩
 have stay:∀d:bU,(hideAll s.heap d).StaysIn s.heap:=λd b o q=>of_hideAll d q;rcases h1 with h1|⟨T,D,t,h1,n,J,P,hT,c,U⟩
 ·have hn:∀b∈e::qJ (env::outer),(hideAll s.heap (e::qJ (env::outer))).get? b=none:=λb h=>hideAll_none _ h
  refine wpAny_leaving_firstW (base:=hideAll s.heap (e::qJ (env::outer))) y (frames_at I λb h=>hn b (aA _ h)) hf he (stay _) (hn e (aG ..)) hd h1 h0 ?_;rw[hc];refine fin _ (λb h=>aA _ h) λb h nb=>?_;rcases cw.mp h with rfl|h
  ·exact⟨K,S⟩
  ·exact absurd h nb
 ·have hn:∀b∈e::T::qJ (env::outer),(hideAll s.heap (e::T::qJ (env::outer))).get? b=none:=λb h=>hideAll_none _ h
  refine wpAny_leaving_nextW (base:=hideAll s.heap (e::T::qJ (env::outer))) y (frames_at I λb h=>hn b (aA _ (aA _ h))) hf
   ⟨oe,vs,T,D,t,he,⟨hc,h0⟩,hd,h1,hn T (aA _ (aG ..)),n,hT,c,U⟩ (stay _) (hn e (aG ..)) ?_
  refine fin _ (λb h=>aA _ (aA _ h)) λb h nb=>?_;rcases cw.mp h with rfl|h
  ·exact⟨K,S⟩
  ·rcases cw.mp h with rfl|h
   ·exact⟨J,P⟩
   ·exact absurd h nb
end
inductive MX (P:Program)(w:World)(outer:b8)(H:Hp)(s:Shared)(E:XK)(e:Value)(s':Shared):Prop
 |mk (ea C:Addr) (H':Hp) (he:e=.ref ea) (os:s'.os=s.os) (b:AllBare s'.gens) (un:Un (qJ outer) [] H H' s.heap s'.heap) (hk:jj P w H' s'.heap) (ly:gL H' s'.heap s.heap ea (.ref C)) (tr:Tr s'.heap ea) (q:E (.ref C) none H')
def wU (P:Program)(w:World):Zw:=λo H s E e S=>MX P w o H s E e S
def _root_.L2.qZ.obj (x:qZ P w H h a o):∃ob,h.get? a=some ob:=by
 cases o with|lst X=>obtain⟨_,_,_,_,e⟩:=x;exact⟨_,e⟩|tup X=>obtain⟨_,_,_,o,e,_⟩:=x;exact⟨o,e⟩|dK K=>obtain⟨_,_,_,_,o,_,_,e,_⟩:=x;exact⟨o,e⟩|dT K=>obtain⟨_,_,_,_,o,_,_,e,_⟩:=x;exact⟨o,e⟩|set S n=>obtain⟨o,_,_,_,e,_⟩:=x;exact⟨o,e⟩|ins C d fs=>obtain⟨_,_,_,e,_⟩:=x;exact⟨_,e⟩|own y=>exact x|xd fs=>obtain⟨_,⟨o,_,_,e,_⟩,_⟩:=x;exact⟨o,e⟩|rng l i=>obtain⟨_,_,_,e⟩:=x;exact⟨_,e⟩|frz ob u=>exact⟨ob,x.1⟩|tbl ps=>exact⟨_,(show h.get? a=some _ from x)⟩|met f y=>exact⟨_,(show h.get? a=some _ from x)⟩|ext b=>exact x.2.1
def Dw {K:Frag}{D:Value}{A:Around}{B:b8}{s:Shared}{E:XK}
  {h:Hp}{a C:Addr}(I:Inv (kg (wU P w) P w K mg base N qual scope f D A B s H E) o6 σ h s')(x:gL h s'.heap s.heap a (.ref C))(y:E (.ref C) none h):
  (kg (wU P w) P w K mg base N qual scope f D A B s H E).xe (.ref a) s':=by
 have bs:Un (qJ B) [] H h s.heap s'.heap:=I.base;have T:∀b∈qJ (envOfC qual scope s.heap.objs.size f D::B),h b=none:=I.stkFree;have p:s.heap.get? s.heap.objs.size=none:=Heap.get?_none_of_le (ao _);have g:(envOfC qual scope s.heap.objs.size f D).frame=some s.heap.objs.size:=rfl;have mem:∀b,b∈qJ (envOfC qual scope s.heap.objs.size f D::B)↔b=s.heap.objs.size∨b∈qJ B:=λb=>by unfold qJ;rw[bb,g];exact mem_cons
 show wpAny (model P w) (A.deeper (envOfC qual scope s.heap.objs.size f D)) (leaving (envOfC qual scope s.heap.objs.size f D) (.ref a)) _ _ s';refine Mj (base:=base) (L:=s.heap.objs.size) I.ok.frames rfl I.stack x (λb u e=>(I.hok b u e).obj) (λb o e=>bs.there b o e (by simp)) λh' M Z X t=>?_
 have r:∀b u,h b=some u->b∉qJ (envOfC qual scope s.heap.objs.size f D::B):=λb u e J=>by rw[T b J]at e;cases e
 refine⟨a,C,h,rfl,I.os,I.bare,⟨λb o e n nb _=>?_,λb o e n Y _=>?_,λb o e n d=>bs.free b o e n d,λb o e d=>?_,bs.tups,bs.frzs,bs.tbls⟩,λb u e=>?_,X,t,y⟩
 ·have i:b≠s.heap.objs.size:=λz=>by rw[z,p]at e;cases e
  exact M b o (bs.keep b o e n nb (by simp)) (λJ=>(mem b).mp J |>.elim i nb) (.inl ⟨o,e⟩)
 ·obtain⟨l,q⟩:=bs.slot b o e n Y (by simp)
  obtain⟨S,Q⟩:=Z b _ q ((mem b).mpr (.inr Y));exact⟨S,Q⟩
 ·obtain⟨U,q⟩:=bs.there b o e d
  by_cases J:b∈qJ (envOfC qual scope s.heap.objs.size f D::B)
  ·obtain⟨l,z⟩:=Z b U q J;exact⟨_,z⟩
  ·exact⟨U,M b U q J (.inl ⟨o,e⟩)⟩
 ·refine(I.hok b u e).stay (λc v j q=>?_) (λ_ q=>q) λ_ _ q=>q
  rcases j with z|z
  ·rw[z]at q ⊢;exact M b v q (r b u e) (.inr ⟨u,e⟩)
  ·exact M c v q (r c _ z) (.inr ⟨_,z⟩)
def Oc {s:Shared}{E:XK}{e:Value}(I:Inv X o6 σ H s)(h:wU X.prog X.w X.stack H s E e s')(g:Heap)(r:∀b o,g.get? b=some o->∃o',s.heap.get? b=some o'):
  ∃a C c,e=.ref a/\Inv X o6 σ c s'/\gL c s'.heap g a (.ref C)/\Tr s'.heap a/\E (.ref C) none c:=by
 obtain⟨a,C,c,rfl,Z,S,un,U,x,tr,u⟩:=h;obtain⟨p,v,d,t,f⟩:=s';obtain rfl:f=s.os:=Z;refine⟨a,C,c,rfl,I.call (h':=p) (g':=v) (d':=d) (t':=t) (ch:=[]) un U S (λb z=>absurd z (by simp)),?_,tr,u⟩
 have up:∀b,s.heap.get? b=none->g.get? b=none:=λb n=>by
  cases z:g.get? b with|none=>rfl|some o=>obtain⟨o',q⟩:=r b o z;rw[n]at q;cases q
 obtain⟨a1,a2,j,Y,Q,P,N,M,L,B⟩:=x;refine⟨up a a1,a2,j,Y,Q,P,N,M,L,?_⟩;rcases B with B|⟨T,l,i,c1,c2,K,J,D,A,y⟩
 ·exact .inl B
 ·exact .inr ⟨T,l,i,c1,c2,up T K,J,D,A,y⟩
def kj (K:Frag)(E:XK):XR:=λx H=>∀C:Addr,kG K x (.ref C)->E (.ref C) none H
inductive Vk (K:Frag)(n:Nat)(f:Fn)(vs:List V)(H:Hp)(Q:VK)(E:XK):Prop
 |mk (len:vs.length=n) (φ:bU) (A:Hx) (ws:List W) (S:zL K φ A H) (r:zF K φ H ws vs) (q:(f ws A).post (PB K φ H Q) (EB K φ H (kj K E)))
def Vk.len {K:Frag}{f:Fn}{Q:VK}{E:XK}(h:Vk K n f vs H Q E):vs.length=n:=by cases h;assumption
inductive yw (P:Program)(w:World)(K:Frag)(mg:b0)(base:Heap)(k:Nat)(x:Str)(n:Nat)(f:Fn):Prop
 |mk (fa:Addr) (fd:FuncData) (ps:bX) (F:yt P w K mg base (wU P w) k fa fd ps (Vk K n f)) (at_:mg x=some (.ref fa)) (kp:keepIn K (.ref fa)=true) (bi:Binds K fd ps [])
structure wO (X:Cx)(g:Heap)(xr:XR):Prop where
 th:∀o6 σ H s,Inv X o6 σ H s->∀b o,g.get? b=some o->∃o',s.heap.get? b=some o'
 out:∀o6 σ H s ea C x,Inv X o6 σ H s->gL H s.heap g ea (.ref C)->kG X.K x (.ref C)->xr x H->X.xe (.ref ea) s
def gv {K:Frag}{i:Value}{A:Around}{r:b8}{s:Shared}{E:XK}:
  wO (kg (wU P w) P w K mg base N qual scope f i A r s H E) s.heap (kj K E) where
 th:=λp g h S I b o e=>(show Un (qJ r) [] H h s.heap S.heap from I.base).there b o e (by simp)
 out:=λp g h S d C x I l c a=>Dw I l (a C c)
section
variable {g:Heap}{c:Expr}
def Rq (K:Frag)(X:XR):XK:=λc _ H=>∃x C,c=.ref C/\kG K x (.ref C)/\X x H
def wO.passes (x:wO X g xr):Passes (wU X.prog X.w) X (Rq X.K xr):=λp j H s e S I h=>by obtain⟨b,C,d,rfl,i,l,_,nm,f,E,c,a⟩:=Oc I h g (x.th p j H s I);cases E;exact x.out p j d S b C nm i l c a
end
def gm (n:Nat)(m:Ex):Fn:=λa A=>(m (a.map some++List.replicate (n-a.length) none) A).bind λf b=>match f with|.rt w=>.ok w b|.nx _=>.ok .non b|_=>.bad
inductive T8 (C:Addr)(bmB:bS)(oN:String)(h:Heap):Prop
 |mk (tl N nm q bs hdct sn sub ab col dd k0 k1 k2 k3 k5 mN:_) (obj:h.get? C=some (excClassObj nm q C N bs tl hdct sn sub ab col dd k0 k1 k2 k3 k5 oN)) (ns:h.Ns N mN) (init:mN "__init__"=none) (tail:OwnTail h bmB tl)
noncomputable def gV (d:Data):Option { c:ClassData // d=.cls c }:=match d with|.cls c=>some ⟨c,rfl⟩|_=>none
def ZJ (K:Frag)(C:Addr)(b:bS)(n:String):Bool:=(K.lookup C).any λo=>(gV o.data).any λc=>
 o.cls==.type "type" && c.1.mro==.ref C::c.1.mro.tail&&o.slots.toList==[o.slots.toList.getD 0 none,o.slots.toList.getD 1 none,o.slots.toList.getD 2 none,o.slots.toList.getD 3 none,some (.builtin n),o.slots.toList.getD 5 none]
  && c.1.hasDel==false&&PySem.W.tailIn K b c.1.mro.tail&&PySem.W.nsOkIn K c.1.ns&&nsIn K c.1.ns "__init__" == some none
def T9 {K:Frag}{C:Addr}{b:bS}{n:String}(X:K.In h)(q:ZJ K C b n=true):T8 C b n h:=by obtain⟨⟨o,r,t,⟨S⟩⟩,H,q⟩:=(Option.any_eq_true _ _).mp q;obtain⟨⟨⟨nm,bs,M,N,Q,p,j,sub,A,l,D⟩,i⟩,-,q⟩:=(Option.any_eq_true _ _).mp q;simp only[ak,aL]at q;obtain⟨⟨⟨⟨⟨⟨g,f⟩,d⟩,c⟩,a⟩,e⟩,E⟩:=q;cases i;cases g;cases c;exact⟨M.tail,N,nm,Q,bs,p,j,sub,A,l,r,_,_,_,_,_,_,X _ _ (by rw[H,f,d];rfl),.of_isNs (PySem.W.isNs_of_in X e),PySem.W.nsMap_none_of_in X e E,PySem.W.tail_of_in X a⟩
def NU (x:Str)(M:Ea):Ex:=λa A=>(M a A).bind λ_ b=>.exc x b
section
variable {g:Heap}{es:bZ}{np:Pos}{C:Addr}{B oN oS:String}{bmB:bS}
def AZ {s:Shared}{e:Addr}{a:bS}(x:wO X g xr)(I:Inv X o6 σ H s)(m:Heap.MadeExcOf s.heap h' e (.ref C) a):
  Inv X o6 σ H { s with heap:=h' }/\gL H h' g e (.ref C):=by
 have N:∀b,s.heap.get? b=none->H b=none:=λb z=>by
  cases q:H b with|none=>rfl|some u=>obtain⟨o,k⟩:=(I.hok b u q).obj;rw[z]at k;cases k
 have n:∀b,s.heap.get? b=none->g.get? b=none:=λb z=>by
  cases q:g.get? b with|none=>rfl|some o=>obtain⟨f,k⟩:=x.th o6 σ H s I b o q;rw[z]at k;cases k
 obtain⟨t,d,i,h⟩:=m.there;refine⟨I.call' (s':={ s with heap:=h' }) (ch:=[]) rfl ⟨λb o q _ _ _=>m.keeps b o q,λb o q _ _ _=>⟨o.slots,m.keeps b o q⟩,λb o q z _=>z,λb o q _=>⟨o,m.keeps b o q⟩,λ_ _ q=>q,λ_ _ _ q=>q,λb ps q=>⟨#[],by rw[Array.append_empty];exact q⟩⟩
  (λb u q=>(I.hok b u q).stay (λc v _ z=>m.keeps c v z) (λ_ z=>z) λ_ _ z=>z) I.bare (λb z=>absurd z (by simp)),?_⟩
 exact⟨n e m.new,N e m.new,_,_,_,d,rfl,rfl,rfl,.inl rfl⟩
def CI (o:wO X g xr)(f:kG X.K x (.ref C))(ex:ZJ X.K C bmB oN=true)(FB:ExcBaseFacts B oN oS bmB)(z:SA X xr (e::es) mr)(v:ZI mr n)(hn:n<=sizeLine:=by decide)(w:Gl X x:=by rfl)(a:X.calm=true:=by rfl)
  (d:yG x:=by decide)(he:ji e es X:=by rfl)(l:wR oD es X:=by rfl):
  SS X xr (.Raise (some (.Call (.Name x np) (e::es) [] oD)) none o7) (NU x mr):=by
 intro o6 s σ H D I ⟨φ,A,ρ,S,re,h⟩;have hm:X.mg x=some (.ref C):=mg_of I.mod.kin I.mod.glob f;obtain⟨t,N,nm,q,bs,hdct,sn,sub,ab,col,dd,k0,k1,k2,k3,k5,mN,M,J,c,T⟩:=T9 I.mod.kin ex;refine wpAny_Raise_call_subT (C:=C) (nm:=nm) (q:=q) (N:=N) (bs:=bs) (bm:=t) (hdct:=hdct) (sn:=sn) (sub:=sub) (ab:=ab) (col:=col) (dd:=dd) (k0:=k0) (k1:=k1) (k2:=k2) (k3:=k3) (k5:=k5)
  FB (mN:=mN) (T.hasType FB.hasBase) (I.ok.hd a) (by rw[he];show(false || (backTo oD (starEach es X.env)).any (·.1))=false;rw[l];rfl) c (YF I w hm ⟨rfl,?_⟩ d)
 have h':=zY.mp h;have j:=z oD o6 s σ H (λvs H1=>vs.length<=sizeLine/\xr x H1) I ⟨φ,A,ρ,S,re,?_⟩
 ·rw[he]at j ⊢
  refine Calls.evalArgs_plain (wpAny_mono j (λus s2 h2=>?_) λ_ _ y=>y);obtain⟨vs,Z,i,r,hlen,u⟩:=h2;refine⟨rfl,?_,i.bk _ _ M,J.keeps i.bk,T.keeps i.bk,λh3 P m=>?_⟩
  ·rw[<- r.length];exact hlen
  ·obtain⟨Y,L⟩:=AZ o i m
   exact o.out o6 σ Z _ P C x Y L f u
 ·cases E:mr ρ A with
  |ok ws A1=>
   rw[E]at h';intro b H1 vs p U Q;refine⟨?_,h' b H1 p U⟩;rw[<- Q.length,v ρ A ws A1 E];exact hn
  |exc y A1=>rw[E]at h';exact h'|bad=>rw[E]at h';exact h'
end
def mJ:List Ev->Str->Ev
 |[],acc=>λ_ A=>.ok (.str acc) A|m::ms,acc=>λa A=>(m a A).bind λw b=>match w with|.str y=>if (acc++y).length<=sizeLine then mJ ms (acc++y) a b else .bad|_=>.bad
section
variable {es:bZ}{m:Ev}{ms:List Ev}
inductive SJ (X:Cx)(xr:XR):List Expr->List Ev->Prop where
 |nil:SJ X xr [] []
 |cons {e:Expr} {es:bZ} {m:Ev} {ms:List Ev} (h:SE X xr e m) (r:SJ X xr es ms):SJ X xr (e::es) (m::ms)
end
section
variable {A:Around}{s:Shared}{e C:Addr}{oe:Obj}{bmB bmD:bS}{oN oP:String}{Q:Bool->Shared->Prop}
def NM (h:Heap)(C D:Addr):Prop:=∃o c,h.get? C=some o/\o.data=.cls c/\c.mro.contains (.ref D)=true
def Et (lc:T8 C bmB oN s.heap)(ld:T8 D bmD oP s.heap)(j:bmD.contains (.type "BaseException")=true)(he:s.heap.get? e=some oe)(a:oe.cls=.ref C)(up:NM s.heap C D)(w:Q true s):
  wpAny M A (excMatches (.ref e) (.ref D)) Q E s:=by
 obtain⟨h,g,d,t,os⟩:=s;obtain⟨n,N,nm,q,bs,Z,sn,sub,ab,col,dd,k0,k1,k2,k3,k5,mN,l,_,_,_⟩:=lc;obtain⟨T,Y,u,I,y,c,r,S,z,p,x,X,U,P,K,L,v,o,_,_,T2⟩:=ld;obtain⟨J,cd,b,hd,hm⟩:=up;rw[l]at b;cases b;have H:(excClassObj nm q C N bs n Z sn sub ab col dd k0 k1 k2 k3 k5 oN).data=.cls cd:=hd;unfold excClassObj at H;cases H;have B:(Value.ref D::T).contains (.type "BaseException")=true:=by rw[List.contains_cons,T2.hasType j,Bool.or_true]
 have i:(Value.ref C::n).contains (.ref D)=true:=hm;have f:=tc_notTuple;unfold excMatches
 repeat (first|(with_reducible refine wpAny_loadPart_at he ?_;rw[a])|with_reducible refine wpAny_loadPart_at o ?_|with_reducible refine wpAny_loadPart_at l ?_|(with_reducible refine wpAny_isSubtype_exc o ?_;rw[B])|(with_reducible refine wpAny_isSubtype_exc l ?_;rw[i])|wp_step)
 exact w
end
section
variable {H0:Hp}{s0 s:Shared}{ea C:Addr}
def landed {T:Addr}{a0:Value}(g:Inv X o6 σ H0 s0)(I:Inv X o6 σ H s)(x:gL H s.heap s0.heap ea (.ref C))(nT:s0.heap.get? T=none)(hT:H T=none)
  (th:∀b o,s0.heap.get? b=some o->∃o',s.heap.get? b=some o')
  (fl:Heap.FlyingW (hideAll s.heap (ea::T::qJ X.stack)) X.stack ea (.ref C) a0 h')(us:s.heap.UpToSlots h'):
  Inv X o6 σ H { s with heap:=h' }/\gL H h' s0.heap ea (.ref C)/\Tr h' ea/\∀b o,s0.heap.get? b=some o->∃o',h'.get? b=some o':=by
 obtain⟨st,_,ff,Y,vs,t,oT,M,he,⟨w,h0⟩,hd,h1,j,A,B,l,h3⟩:=fl;have Z:s0.heap.get? ea=none:=by cases x;assumption
 have nH:H ea=none:=by cases x;assumption
 have kept:∀b o,s.heap.get? b=some o->b∉qJ X.stack->b≠ea->b≠T->h'.get? b=some o:=λb o q n1 N n3=>st b o (bJ _ q λhm=>by
  rcases cw.mp hm with z|hm
  ·exact N z
  rcases cw.mp hm with z|hm
  ·exact n3 z
  ·exact n1 hm)
 have slot:∀b o,s.heap.get? b=some o->b∈qJ X.stack->∃S,h'.get? b=some { o with slots:=S }:=λb o q hm=>by obtain⟨_,o',h,f⟩:=I.stack.mem hm;rw[q]at h;cases h;exact us b o q f
 have off:∀b u,H b=some u->b∉qJ X.stack/\b≠ea/\b≠T:=λb u q=>⟨λhm=>(by rw[I.stkFree b hm]at q;cases q),λz=>(by rw[z,nH]at q;cases q),λz=>(by rw[z,hT]at q;cases q)⟩
 have ne:∀b o,s0.heap.get? b=some o->b≠ea/\b≠T:=λb o q=>⟨λz=>(by rw[z,Z]at q;cases q),λz=>(by rw[z,nT]at q;cases q)⟩
 have any:∀b o o',s0.heap.get? b=some o'->s.heap.get? b=some o->∃S,h'.get? b=some { o with slots:=S }:=λb o o' Q q=>by
  by_cases hm:b∈qJ X.stack
  ·exact slot b o q hm
  ·exact⟨o.slots,kept b o q hm (ne b o' Q).1 (ne b o' Q).2⟩
 have cell:∀y c,X.env.cells.lookup y=some c->∀v,s.heap.IsCell c v->h'.IsCell c v:=λy c e v ⟨o,K,hd⟩=>by obtain⟨_,o0,d,_⟩:=g.cell y c e;obtain⟨S,z⟩:=any c o o0 d K;exact⟨_,z,hd⟩
 have inv:Inv X o6 σ H { s with heap:=h' }:=by
  refine⟨I.ok,I.os,I.bare,⟨λb o q n J nx=>?_,λb o q n hf nx=>?_,I.base.free,λb o q nx=>?_,I.base.tups,I.base.frzs,I.base.tbls⟩,?_,λy c e=>?_,I.free,I.freeC,λp hp=>?_,λb u q=>?_,I.len⟩
  ·have a:=I.base.keep b o q n J nx
   have Q:=g.base.keep b o q n J nx;refine kept b o a (λhm=>?_) (ne b o Q).1 (ne b o Q).2;rcases cw.mp (I.stkSub b hm) with z|z
   ·exact absurd (aJ (aM q) I.ok.above) (by rw[z];exact aT _)
   ·exact J z
  ·obtain⟨S,a⟩:=I.base.slot b o q n hf nx
   obtain⟨sl0,Q⟩:=g.base.slot b o q n hf nx;obtain⟨D,z⟩:=any b _ _ Q a;exact⟨D,z⟩
  ·obtain⟨E,a⟩:=I.base.there b o q nx
   obtain⟨o0,Q⟩:=g.base.there b o q nx;obtain⟨S,z⟩:=any b E o0 Q a;exact⟨_,z⟩
  ·obtain⟨m,⟨o,es,ep,K,r⟩,k⟩:=I.loc
   obtain⟨_,⟨o0,_,_,d,_⟩,_⟩:=g.loc;obtain⟨S,z⟩:=any _ o o0 d K;refine⟨m,⟨_,es,ep,z,r⟩,λi y v e1 e2 e3=>?_⟩;obtain⟨u,ru,lk⟩:=k i y v e1 e2 e3;refine⟨u,ru,?_⟩;rcases lk with lk|⟨lk,c,ec,L⟩
   ·exact .inl lk
   ·exact .inr ⟨lk,c,ec,cell y c ec _ L⟩
  ·obtain⟨v,hv⟩:=I.cell y c e
   exact⟨v,cell y c e v hv⟩
  ·obtain⟨p1,p2,p3,P,p5⟩:=I.pin p hp
   have U:=(g.pin p hp).1;refine⟨kept _ _ p1 (λhm=>?_) (ne _ _ U).1 (ne _ _ U).2,p2,p3,P,p5⟩;rcases cw.mp (I.stkSub _ hm) with z|z
   ·exact p3 z
   ·exact P z
  ·refine(I.hok b u q).stay (λc v L z=>?_) (λ_ z=>z) λ_ _ z=>z
   rcases L with e|e
   ·obtain⟨n1,N,n3⟩:=off b u q
    rw[e]at z ⊢;exact kept b v z n1 N n3
   ·obtain⟨n1,N,n3⟩:=off c _ e
    exact kept c v z n1 N n3
 have both:s0.heap.get? t=none/\H t=none:=by
  cases q:s.heap.get? t with
  |some o=>
   by_cases hm:t∈ea::T::qJ X.stack
   ·rcases cw.mp hm with z|hm
    ·exact absurd z A
    rcases cw.mp hm with z|hm
    ·rw[z];exact⟨nT,hT⟩
    ·obtain⟨S,z⟩:=slot t o q hm
     obtain⟨_,o',h,f⟩:=I.stack.mem hm;rw[q]at h;cases h;rw[B]at z;cases z;exact absurd l (f M)
   ·rw[bJ _ q hm]at j;cases j
  |none=>
   constructor
   ·cases z:s0.heap.get? t with|none=>rfl|some o=>obtain⟨o',k⟩:=th t o z;rw[q]at k;cases k
   ·cases z:H t with|none=>rfl|some u=>obtain⟨o',k⟩:=(I.hok t u z).obj;rw[q]at k;cases k
 exact⟨inv,⟨Z,nH,Y,vs,a0,he,w,hd,h0,.inr ⟨t,oT,M,h1,A,both.1,both.2,B,l,h3⟩⟩,⟨Y,vs,t,he,hd,h1⟩,λb o q=>by obtain⟨E,a⟩:=th b o q;obtain⟨S,z⟩:=any b E o q a;exact⟨_,z⟩⟩
def flying (I:Inv X o6 σ H s)(x:gL H s.heap s0.heap ea (.ref C))(tr:Tr s.heap ea):
  ∃T A,s0.heap.get? T=none/\H T=none/\Heap.FlyingW (hideAll s.heap (ea::T::qJ X.stack)) X.stack ea (.ref C) A s.heap:=by
 obtain⟨u,w,l,J,A,D,p,E,K,z⟩:=x;obtain⟨j,v,y,h,a,c⟩:=tr;rw[D]at h;cases h;rw[E]at a;cases a;rcases z with z|⟨T,n,t,z,g,d,i,hT,e,r⟩
 ·rw[z]at c;cases c
 ·have B:∀b∈ea::T::qJ X.stack,(hideAll s.heap (ea::T::qJ X.stack)).get? b=none:=λb f=>hideAll_none _ f
  exact⟨T,A,d,i,λb o q=>of_hideAll _ q,B ea (aG ..),frames_at I.stack λb f=>B b (aA _ (aA _ f)),
   l,J,T,n,t,D,⟨p,K⟩,E,z,B T (aA _ (aG ..)),g,hT,e,r⟩
end
def WI (o:Obj):HO:=.frz o (.own 0)
def J1 (K:Frag)(C D:Addr):Bool:=match K.lookup C with|some ⟨_,_,.cls c,_⟩=>c.mro.contains (.ref D)|_=>false
def g0 {K:Frag}{C:Addr}(X:K.In h)(e:J1 K C D=true):NM h C D:=by
 unfold J1 at e
 split at e
 ·rename_i H
  exact⟨_,_,X _ _ H,rfl,e⟩
 ·cases e
section
variable {H0:Hp}{s0 s:Shared}{ea C L:Addr}
def Y1 (i:Inv X o6 σ H0 s0)(I:Inv X o6 σ H s)(x:gL H s.heap s0.heap ea (.ref C)):∃a,a.cls=.ref C/\H ea=none/\Inv X o6 σ (upd H ea (WI a)) s:=by
 obtain⟨j,d,a,E,A,B,l,_⟩:=x;refine⟨a,l,d,?_⟩;have t:∀b o,s0.heap.get? b=some o->b≠ea:=λb o q z=>by rw[z,j]at q;cases q
 have at_:∀b,b≠ea->upd H ea (WI a) b=H b:=λb n=>by unfold upd;exact aj n
 have N:∀b u,H b=some u->upd H ea (WI a) b=some u:=λb u q=>by rw[at_ b λz=>by rw[z,d]at q;cases q];exact q
 refine⟨I.ok,I.os,I.bare,⟨I.base.keep,I.base.slot,λb o q n nx=>?_,I.base.there,λb w q=>N _ _ (I.base.tups b w q),λb o u q=>N _ _ (I.base.frzs b o u q),λb ps q=>?_⟩,I.loc,I.cell,?_,λy c e=>?_,λp f=>?_,λb u q=>?_,I.len⟩
 ·obtain⟨r,Q⟩:=i.base.there b o q nx
  rw[at_ b (t b r Q)];exact I.base.free b o q n nx
 ·obtain⟨M,z⟩:=I.base.tbls b ps q
  exact⟨M,N _ _ z⟩
 ·obtain⟨m,⟨r,_,_,h,_⟩,_⟩:=i.loc
  rw[at_ _ (t _ r h)];exact I.free
 ·obtain⟨v,r,h,_⟩:=i.cell y c e
  rw[at_ _ (t _ r h)];exact I.freeC y c e
 ·obtain⟨g,P,D⟩:=I.pin p f
  refine⟨g,?_,D⟩;rw[at_ _ (t _ _ (i.pin p f).1)];exact P
 ·by_cases z:b=ea
  ·subst z
   have:u=WI a:=by unfold upd at q;rw[ai rfl]at q;exact(aC q).symm
   subst this;exact⟨B,⟨a,B⟩⟩
  ·rw[at_ b z]at q
   exact(I.hok b u q).stay (λ_ _ _ z=>z) (λc z=>N c _ z) λc w z=>N c _ z
def hh (X:Cx)(p:bV)(c:St)(S:Shared)(D:Addr)(k:Addr->Addr->Hp->Prop)(e:Value)(s:Shared):Prop:=
 ∃E C H B n,e=.ref E/\Inv X p c H s/\gL H s.heap S.heap E (.ref C)/\Tr s.heap E/\(∀b o,S.heap.get? b=some o->∃d,s.heap.get? b=some d)/\Mi.ZJ X.K C B n=true/\J1 X.K C D=true/\∀a,a.cls=.ref C->H E=none->k E C (upd H E (WI a))
def hA {l n:Str}{p:bS}{oP:String}{S:cg}{B:Stmt}{np hp:Pos}{Q:Flow->Shared->Prop}{k:Addr->Addr->Hp->Prop}
  (I0:Inv X o6 σ H0 s0)(t:X.stack=X.env::X.outer)(hL:X.env.frame=some L)(hD:kG X.K l (.ref D))(exD:Mi.ZJ X.K D p oP=true)(hbD:p.contains (.type "BaseException")=true)
  (hN:X.N.Nodup)(hi:X.N[i]? =some n)(hx:Loc X.env.scope n)
  (y:wpAny (model X.prog X.w) X.A (execs body X.env) (λf s1=>f=.next/\Q .next s1) (hh X o6 σ s0 D k) s0)
  (b:∀E C H s2,Inv X o6 (σ.set i (some (.ref E))) H s2->k E C H->∀E',wpAny (model X.prog X.w) (X.A.mark (some (.ref E))) (execs (B::S) X.env)
   (λf s4=>wpAny (model X.prog X.w) X.A (do bindName X.env n .none;unbindBehindTheSuite X.env n hp) (λ_ s5=>Q f s5) X.xe s4) E' s2)
  (hg:Gl X l)(Z:yG l:=by decide)(hf:QO X n:=by first|exact .inl rfl|exact .inr rfl|assumption):
  wpAny (model X.prog X.w) X.A (exec (.Try body [.ExceptHandler (some (.Name l np)) (some n) (B::S) hp] [] [] o7) X.env) Q X.xe s0:=by
 refine wpAny_Try_except (wpAny_mono y (λf s1 ⟨ef,q⟩=>?_) λe s1 h=>?_)
 ·subst ef
  exact wpAny_execs_nil q
 obtain⟨E,C,H,bmC,newC,rfl,I,x,tr,th,exC,up,hk⟩:=h;have hm:X.mg l=some (.ref D):=mg_of I.mod.kin I.mod.glob hD;obtain⟨T,a0,nT,hT,fl⟩:=flying I x tr;have Y:X.A.frames=some (X.env::X.outer):=by rw[<- t];exact I.ok.frames
 refine wpAny_looks_onW Y hL (by rw[<- t];exact fl) λh₄ g d=>?_
 refine wpAny_landsW g λo a U=>?_;obtain⟨c,x5,r,z⟩:=landed I0 I x nT hT th (by rw[<- t]at a;exact a) (d.trans U)
 obtain⟨_,_,oe,_,_,he,hc,_⟩:=id x5;refine wpAny_handleBy_cons (codeAny_handlers_test (Calls.Name_function_global c.ok.kind hg (Calls.loadGlobal_global (by rw[c.ok.glob];exact c.mod.glob.keeps c.bk) hm ?_) Z)) (by intro q;cases q)
 refine Et (s:={ s1 with heap:=o }) (T9 c.kIn exC) (T9 c.kIn exD) hbD he hc (g0 c.kIn up) ?_
 refine codeAny_handlers_suite_as ?_;obtain⟨T',a0',M,hT',fl'⟩:=flying c x5 r;refine lands_againW fl' λh₆ j u=>?_;obtain⟨I6,x6,_,_⟩:=landed I0 c x5 M hT' z j u;obtain⟨of,P,J,I7⟩:=Y1 I0 I6 x6;exact YE (v:=.ref E) I7 hN hi hx rfl (λs7 I7=>b E C _ s7 I7 (hk of P J) _) hf
end
section
variable {s:Shared}{A:Around}
def name_goes {n:Str}{Q:Unit->Shared->Prop}(I:Inv X o6 σ H s)(hN:X.N.Nodup)(D:X.N[i]? =some n)(Z:X.env.scope.names.lookup n=some .local)
  (h:∀s',Inv X o6 (σ.set i none) H s'->Q () s'):wpAny M A (do bindName X.env n .none;unbindBehindTheSuite X.env n o7) Q E s:=by
 obtain⟨m,hn,Y⟩:=id I.loc;have f:i < σ.length:=by rw[I.len];exact(cu.mp D).1
 refine wpAny_nameGoes_keeps Z hn (by rw[I.ok.kind];rfl) λh' v w t=>h _ ?_
 have old:∀b o,b≠X.env.locals->s.heap.get? b=some o->h'.get? b=some o:=λb o n q=>(t.2 b n).trans q;have nl:∀{b:Addr}{u:HO},H b=some u->b≠X.env.locals:=λq z=>by rw[z,I.free]at q;cases q
 have ab:∀{b:Addr}{k:Nat},b<k->k<=X.env.locals->b≠X.env.locals:=λl g=>aO (aJ l g);refine⟨I.ok,I.os,I.bare,⟨λb o e z C x=>?_,λb o e z C x=>?_,I.base.free,λb o e x=>?_,I.base.tups,I.base.frzs,I.base.tbls⟩,⟨_,w,λj y K a r e3=>?_⟩,λy c e=>?_,I.free,I.freeC,λp T=>?_,λb u q=>?_,by simpa using I.len⟩
 ·exact old b o (ab (aM e) I.ok.above) (I.base.keep b o e z C x)
 ·obtain⟨S,a⟩:=I.base.slot b o e z C x
  exact⟨S,old b _ (ab (aM e) I.ok.above) a⟩
 ·obtain⟨o',a⟩:=I.base.there b o e x
  exact⟨o',old b _ (ab (aM e) I.ok.above) a⟩
 ·by_cases B:j=i
  ·subst B
   rw[av f]at r;cases r
  ·rw[aw (Ne.symm B)]at r
   obtain⟨U,L,q⟩:=Y j y K a r e3;refine⟨U,L,?_⟩;rcases q with ⟨k,e⟩|⟨k,c,e,z⟩
   ·have:y≠n:=λe=>B (UC hN a (e ▸ D))
    exact .inl ⟨k,by simp[this,e]⟩
   ·exact .inr ⟨k,c,e,z.sameBut t (I.cne y c e)⟩
 ·obtain⟨J,z⟩:=I.cell y c e
  exact⟨J,z.sameBut t (I.cne y c e)⟩
 ·obtain⟨e,z,ne,P,d⟩:=I.pin p T
  exact⟨old _ _ ne e,z,ne,P,d⟩
 ·refine(I.hok b u q).stay (λc v hc z=>old c v ?_ z) (λ_ z=>z) λ_ _ z=>z
  rcases hc with e|e
  ·rw[e];exact nl q
  ·exact nl e
def Eb {j:Nat}{n y:Str}{E:Addr}{C Y D p:Pos}{Q:Flow->Shared->Prop}{B:bY}(I:Inv X o6 (σ.set i (some (.ref E))) H s)(d:X.N.Nodup)(b:X.N[i]? =some n)(x:X.N[j]? =some y)
  (h:X.env.scope.names.lookup n=some .local)(g:Loc X.env.scope y)(q:∀s',Inv X o6 (((σ.set i (some (.ref E))).set j (some (.ref E))).set i none) H s'->Q .next s')
  (o:swapsWith (.Name n C) (some (.Name y Y)) D.line X.env=pure false)(M:QO X y)
  (c:yG n:=by decide):
  wpAny (model X.prog X.w) A (execs [.Assign [.Name y Y] (.Name n C) D] X.env) (λf J=>wpAny (model X.prog X.w) X.A (do bindName X.env n .none;unbindBehindTheSuite X.env n p) (λ_ S=>Q f S) X.xe J) B s:=by
 obtain⟨m,K,t⟩:=I.loc;have a:i < σ.length:=by have:=I.len;rw[bF]at this;rw[this];exact(cu.mp b).1
 obtain⟨u,r,l⟩:=t i n (.ref E) b (av a) (.inl h);obtain rfl:u=Value.ref E:=r;have L:m n=some (.ref E):=by
  rcases l with ⟨_,e⟩|⟨k|k,_⟩
  ·exact e
  ·rw[show X.env.kindOf n=some .local from h]at k;cases k
  ·rw[show X.env.kindOf n=some .local from h]at k;cases k
 refine wpAny_execs_cons (wpAny_Assign_Name (wpAny_Name (wpAny_loadName_local I.ok.kind h K L ?_) c) o);exact YE (v:=.ref E) I d x g rfl (λS z=>wpAny_execs_nil (name_goes z d b h q)) M
end
open PySem PySem.W PySem.Spec PySem.Calls PyProof.Rows Builtin Builtin.ObjectAttr Builtin.Getset_descriptor
section
variable {prog:Program}{A:Around}{s:Shared}{K:Frag}{x:Addr}{name:Str}
def hE {a g:Value}(X:K.In h)(b:findIn K (.ref D) name=some (some a))(n:specialIn K a "__get__"=some (some g))(H:takesIn K a=some true):Looks M h (find (.ref x) (.ref D) name) (.bind g a):=
 (looks_findIn (M:=M) X b).andThen ((show Looks M h (getOf (some a)) (some g) from looks_specialIn X n).andThen
  ((show Looks M h (dataDescriptor? (some a) (some g)) (some (g,a)) from (looks_takesIn (M:=M) X H).andThen .now).andThen (Looks.tag .now)))
def hH {t:Value}{R:Result->Shared->Prop}(X:K.In s.heap)(l:Looks (model prog w) s.heap (typeOf (.ref x)) (.ref D))(H:mroIn K D (.type "object")=some true)(h:R (.ok (.ret (.ref D))) s):
  codeAny (model prog w) A (.call (.builtin "getset_descriptor.__get__") ⟨[.builtin "object.__class__",.ref x,t],[]⟩) R s:=by
 obtain⟨a,g,d,T,o⟩:=s;have L:=looks_mroIn (M:=model prog w) X H;have S:=KF.slot_gs;refine codeAny_call_builtin S.plain KF.entry_gs (S.check _ _ _ _ _ _ _ _ KF.type_class (KF.args_gs _ _ _) ?_);unfold «getset_descriptor.__get__» descrGet;rw[dga_obj];refine cj (cn ?_);unfold descrGetter descrCheckInstance isInstance descrNameAndClass;simp only[KF.owner_class]
 repeat lk
 refine And.intro (Code.quiet_builtin _ (by decide +kernel)) (codeAny_builtin KF.entry_class ?_)
 unfold «object.__class__» shownTypeOf
 repeat lk
 exact h
def Ec {t:bS}{w:List (Str×Value)}{Q:Unit->Shared->Prop}(X:K.In s.heap)(l:Looks M s.heap (typeOf (.ref x)) (.ref D))(H:mroIn K D (.type "BaseException")=some true)
  (ok:argsOk "BaseException.__getattribute__" ⟨.ref x::t,w⟩)(h:Q () s):wpAny M A (checkBuiltinCall "BaseException.__getattribute__" ⟨.ref x::t,w⟩) Q E s:=by
 have c:splitId "BaseException.__getattribute__"=some ("BaseException","__getattribute__"):=by first|rfl|decide +kernel
 have a:builtinKind "BaseException.__getattribute__"=some .slot∨builtinKind "BaseException.__getattribute__"=some .method:=by
  simp only[builtinKind,c]
  first|exact .inl (by decide +kernel)|exact .inr (by decide +kernel)
 have L:=looks_mroIn (M:=M) X H;have r:wpAny M A (match Manifest.signature? "BaseException.__getattribute__" with|some S=>Bind.checkArgs "BaseException.__getattribute__" S ⟨.ref x::t,w⟩|none=>pure ()) Q E s:=wpAny_of_eq ok h
 rcases a with d|d
 all_goals
  unfold checkBuiltinCall;rw[d,c];dsimp only;unfold isInstance;refine cj (cj (l.at (L.at ?_)));exact r
def FE {Q:Option Value->Shared->Prop}(b:findIn K (.ref D) "__getattribute__"=some (some (.builtin "BaseException.__getattribute__")))(n:findIn K (.ref D) "__getattr__"=some none)
  (e:findIn K (.ref D) "__class__"=some (some (.builtin "object.__class__")))
  (i:specialIn K (.builtin "object.__class__") "__get__"=some (some (.builtin "getset_descriptor.__get__")))(H:takesIn K (.builtin "object.__class__")=some true)(j:mroIn K D (.type "object")=some true)(a:mroIn K D (.type "BaseException")=some true)
  (X:K.In s.heap)(L:Looks (model prog w) s.heap (typeOf (.ref x)) (.ref D))(h:Q (some (.ref D)) { s with toks:=s.toks+1 }):wpAny (model prog w) A (getAttr? (.ref x) "__class__") Q E s:=by
 obtain⟨c,g,d,t,o⟩:=s;have l:=looks_findIn (M:=model prog w) X b;have L2:=hE (M:=model prog w) (x:=x) X e i H;have f:=looks_findIn (M:=model prog w) X n;unfold getAttr?;unfold getAttrBy?;unfold getAttrBy;refine cj (wpAny_mkText (cj (wpAny_attempt (wpAny_holding (cj (L.at (cj (l.at ?_))))))));show wpAny _ _ (getAttrByItsOwn (.ref x) (.str "__class__" t) (.ref D) (.builtin "BaseException.__getattribute__") false false) _ _ _;unfold getAttrByItsOwn;refine cj ?_;show wpAny _ _ (typeLookup (.ref D) "__getattr__") _ _ _;refine f.at (cj (wpAny_attempt (wpAny_holding ?_)));show wpAny _ _ (bindSpecial (.builtin "BaseException.__getattribute__") (.ref x) >>= _) _ _ _;refine cj (wpAny_of_eq (F.excAttr_ValueError.ga.bind _) ?_);refine wpAny_call (codeAny_call_builtin F.excAttr_ValueError.ga.plain F.entry_bexc_ga (Ec X L a (F.args_bexc_ga _ _) ?_));unfold «object.__getattribute__»;refine cj (wpAny_of_eq (show slotArgs "__getattribute__" 1 ⟨[.ref x]++[.str "__class__" t],[]⟩=pure (.ref x,[.str "__class__" t]) from rfl) ?_)
 refine cj (wpAny_of_eq (show attrName (.str "__class__" t)=pure ("__class__":Str) from rfl) (cj (L.at (cj (L2.at ?_)))))
 show wpAny _ _ (holding [Value.builtin "object.__class__"] (call (.builtin "getset_descriptor.__get__") [.builtin "object.__class__",.ref x,.ref D]) >>= ret) _ _ _;refine cj (wpAny_holding (wpAny_call (hH (s:=⟨c,g,d,t+1,o⟩) X L j ?_)));refine cn ?_;exact handed_on rfl (cn h)
end
def Xs (x D:Addr)(h:Heap):Prop:=∃o,h.get? x=some o/\o.cls=.ref D
def Xs.ty {x:Addr}(p:Xs x D h):Looks M h (typeOf (.ref x)) (.ref D):=by obtain⟨o,H,c⟩:=p;rw[<- c];exact(Looks.ld H).andThen .now
def CL {K:Frag}{x:Addr}(d:(clsIn K D).isSome=true)(c:findIn K (.ref D) "__getattribute__"=some (some (.builtin "BaseException.__getattribute__")))(b:findIn K (.ref D) "__getattr__"=some none)(e:findIn K (.ref D) "__class__"=some (some (.builtin "object.__class__")))
  (j:specialIn K (.builtin "object.__class__") "__get__"=some (some (.builtin "getset_descriptor.__get__")))(H:takesIn K (.builtin "object.__class__")=some true)(r:mroIn K D (.type "object")=some true)(a:mroIn K D (.type "BaseException")=some true):
  KitX K (.ref x) (.ref D) (Xs x D) where
 ty:=λ_ _ _ p=>p.ty
 it:=λ_ _ X _=>by
  obtain⟨C,h⟩:=Option.isSome_iff_exists.mp d;unfold clsIn at h
  split at h
  ·rename_i g w f S o
   intro A Q E u k q;unfold isType loadHead;exact cj (wpAny_loadPart (k _ _ (X D _ o)) (cn q))
  ·cases h
 ne:=λ_ T v i n l X t=>by
  obtain⟨C,h⟩:=Option.isSome_iff_exists.mp d;rw[Bool.eq_false_iff];intro q;cases Value.ref.inj (aL.mp q);unfold clsIn at h
  split at h
  ·rename_i o
   cases (X _ _ o).symm.trans t
  ·cases h
 ca:=λX p k=>FE c b e j H r a X p.ty k
def K5 (K:Frag)(C:Addr):Bool:=(PySem.W.clsIn K C).isSome&&(PySem.W.findIn K (.ref C) "__getattribute__" == some (some (.builtin "BaseException.__getattribute__")))&&(PySem.W.findIn K (.ref C) "__getattr__" == some none)&&(PySem.W.findIn K (.ref C) "__class__" == some (some (.builtin "object.__class__")))&&
 (PySem.W.specialIn K (.builtin "object.__class__") "__get__" == some (some (.builtin "getset_descriptor.__get__")))&&(PySem.W.takesIn K (.builtin "object.__class__")==some true)&&(PySem.W.mroIn K C (.type "object")==some true)&&(PySem.W.mroIn K C (.type "BaseException")==some true)
section
variable {s:Shared}{A:Around}{c:Value}{b:Bool}{ea C:Addr}
def hJ {o:Obj}{u:HO}(I:Inv X o6 σ H s)(e:H ea=some (.frz o u))(d:o.cls=.ref C)(k:K5 X.K C=true)(q:kitOne X.K (.ref C) c=some b)(h:∀t,Q (.bool b) { s with toks:=t }):
  wpAny (model X.prog X.w) A (call (.builtin "isinstance") [.ref ea,c]) Q E s:=by
 have p:Xs ea C s.heap:=⟨o,(show qZ X.prog X.w H s.heap ea (.frz o u) from I.hok ea _ e).1,d⟩
 unfold K5 at k;simp only[ak,aL]at k;obtain⟨⟨⟨⟨⟨⟨⟨r,n⟩,a⟩,l⟩,i⟩,j⟩,g⟩,f⟩:=k;exact bD (CL r n a l i j g f) I.kIn p q (λz=>nomatch z) h
def hV (I:Inv X o6 σ H s)(q:kitOne X.K (.type "NoneType") c=some b)(h:∀t,Q (.bool b) { s with toks:=t }):wpAny (model X.prog X.w) A (call (.builtin "isinstance") [.none,c]) Q E s:=
 PN I (x:=.non) rfl .non q h
end
def kL (P:Program)(w:World)(K:Frag)(M:b0)(b:Heap)(N:bX)(qual:Str)(scope:Scope)(f:Addr)(c:Value)(cl:b9)(A:Around)(o:b8)(s:Shared)(H:Hp)(E:XK):Cx where
 prog:=P
 w:=w
 K:=K
 mg:=M
 base:=b
 A:=A.deeper (envX qual scope s.heap.objs.size f c cl)
 N:=N
 s0:=s
 H0:=H
 env:=envX qual scope s.heap.objs.size f c cl
 outer:=o
 stack:=envX qual scope s.heap.objs.size f c cl::o
 ex:=[]
 calm:=true
 fn:=λ_=>false
 pn:=[]
 xe:=λe d=>wpAny (model P w) (A.deeper (envX qual scope s.heap.objs.size f c cl)) (leaving (envX qual scope s.heap.objs.size f c cl) e) (λ_ S=>wU P w o H s E e S) (λa S=>wU P w o H s E a S) d
section
variable {K:Frag}{cd:Value}{cl:b9}{A:Around}{outer:b8}{s:Shared}{E:XK}
def E1 {h:Hp}{a C:Addr}(I:Inv (kL P w K mg base N qual scope f cd cl A outer s H E) o6 σ h s')(x:gL h s'.heap s.heap a (.ref C))(y:E (.ref C) none h):
  (kL P w K mg base N qual scope f cd cl A outer s H E).xe (.ref a) s':=by
 have bs:Un (qJ outer) [] H h s.heap s'.heap:=I.base;have J:∀b∈qJ (envX qual scope s.heap.objs.size f cd cl::outer),h b=none:=I.stkFree;have p:s.heap.get? s.heap.objs.size=none:=Heap.get?_none_of_le (ao _);have g:(envX qual scope s.heap.objs.size f cd cl).frame=some s.heap.objs.size:=rfl;have mem:∀b,b∈qJ (envX qual scope s.heap.objs.size f cd cl::outer)↔b=s.heap.objs.size∨b∈qJ outer:=λb=>by unfold qJ;rw[bb,g];exact mem_cons
 show wpAny (model P w) (A.deeper (envX qual scope s.heap.objs.size f cd cl)) (leaving (envX qual scope s.heap.objs.size f cd cl) (.ref a)) _ _ s';refine Mj (base:=base) (L:=s.heap.objs.size) I.ok.frames rfl I.stack x (λb u e=>(I.hok b u e).obj) (λb o e=>bs.there b o e (by simp)) λY D U X t=>?_
 have r:∀b u,h b=some u->b∉qJ (envX qual scope s.heap.objs.size f cd cl::outer):=λb u e B=>by rw[J b B]at e;cases e
 refine⟨a,C,h,rfl,I.os,I.bare,⟨λb o e n nb _=>?_,λb o e n T _=>?_,λb o e n d=>bs.free b o e n d,λb o e d=>?_,bs.tups,bs.frzs,bs.tbls⟩,λb u e=>?_,X,t,y⟩
 ·have i:b≠s.heap.objs.size:=λz=>by rw[z,p]at e;cases e
  exact D b o (bs.keep b o e n nb (by simp)) (λB=>(mem b).mp B |>.elim i nb) (.inl ⟨o,e⟩)
 ·obtain⟨l,q⟩:=bs.slot b o e n T (by simp)
  obtain⟨S,Q⟩:=U b _ q ((mem b).mpr (.inr T));exact⟨S,Q⟩
 ·obtain⟨M,q⟩:=bs.there b o e d
  by_cases B:b∈qJ (envX qual scope s.heap.objs.size f cd cl::outer)
  ·obtain⟨l,z⟩:=U b M q B;exact⟨_,z⟩
  ·exact⟨M,D b M q B (.inl ⟨o,e⟩)⟩
 ·refine(I.hok b u e).stay (λc v j q=>?_) (λ_ q=>q) λ_ _ q=>q
  rcases j with z|z
  ·rw[z]at q ⊢;exact D b v q (r b u e) (.inr ⟨u,e⟩)
  ·exact D c v q (r c _ z) (.inr ⟨_,z⟩)
def Mz:wO (kL P w K mg base N qual scope f cd cl A outer s H E) s.heap (kj K E) where
 th:=λp g h S I b o e=>(show Un (qJ outer) [] H h s.heap S.heap from I.base).there b o e (by simp)
 out:=λp g h S d C x I l c a=>E1 I l (a C c)
structure GD (N:bX)(sc:Scope):Prop where
 kind:sc.kind=.function
 co:sc.isCoroutine=false
 gen:sc.isGenerator=false
 nocell:∀y∈sc.names,y.2≠.cell
structure ZX (base:Heap)(N:bX)(scope:Scope)(cl:b9)(vs:List V):Prop where
 len:vs.length=N.length
 inj:∀x y c,cl.lookup x=some c->cl.lookup y=some c->x=y
 has:∀x,scope.names.lookup x=some .free->∃c,cl.lookup x=some c
 cell:∀x c,cl.lookup x=some c->∃v,base.IsCell c v
 val:∀(i:Nat)(x:Str)(v:V),N[i]? =some x->vs[i]? =some v->∃c u,scope.names.lookup x=some .free/\cl.lookup x=some c/\base.IsCell c (some u)/\RelV v u
def Ax {J:Heap}{T:Tok}(S:GD N scope)(L:A.handled=none)(d:J4 P w K mg base A outer s H)(C:ZX base N scope cl vs)(l:∃m,J.Ns s.heap.objs.size m)(q:∀b o,s.heap.get? b=some o->J.get? b=some o):
  Inv (kL P w K mg base N qual scope f cd cl A outer s H E) [] (L2.start N vs) H { s with heap:=J,toks:=T }:=by
 have n:∀b:Addr,b∉(kL P w K mg base N qual scope f cd cl A outer s H E).ex:=λb z=>absurd (show b∈([]:bU) from z) (by simp)
 have bk:∀c v,base.IsCell c v->J.IsCell c v/\H c=none:=λc v ⟨o,t,L⟩=>⟨⟨o,q _ _ (d.bs _ _ t).1,L⟩,(d.bs _ _ t).2⟩;obtain⟨m,M⟩:=l;refine⟨⟨d.mod,S.kind,rfl,rfl,ao _,C.inj,λy g=>?_,λy c z _=>(nomatch z),λ_=>L,Around.frames_deeper d.frames,.inr ⟨rfl,rfl⟩,λb z=>absurd z (n b),d.bs,d.bsz,λb _ _=>n b,λb z=>absurd z (n b),d.funs,d.frf⟩,
  rfl,d.bare,Un.kept q,⟨m,M,λi y v J I D=>?_⟩,λy c h=>?_,d.hok.fresh (ao _),λy c h=>?_,λp x=>absurd (show p∈([]:bV) from x) (by simp),d.hok.kept q,?_⟩
 ·have g:scope.names.lookup y=some .cell∨scope.names.lookup y=some .free:=g
  rcases g with g|g
  ·exact absurd rfl (S.nocell _ (PySem.mem_of_lookup g))
  ·exact C.has y g
 ·have j:i<vs.length:=by
   unfold L2.start at I
   by_cases j:i<vs.length
   ·exact j
   ·rw[ar (by simpa using j)]at I
    rw[bg]at I
    split at I<;>cases I
  have B:vs[i]? =some v:=by
   unfold L2.start at I;rw[ah (by simpa using j),ay]at I
   cases e:vs[i]? with|none=>rw[e]at I;cases I|some a=>rw[e]at I;cases I;rfl
  obtain⟨c,u,k,e,z,r⟩:=C.val i y v J B;exact⟨u,r,.inr ⟨.inr k,c,e,(bk _ _ z).1⟩⟩
 ·obtain⟨v,z⟩:=C.cell y c h
  exact⟨v,(bk _ _ z).1⟩
 ·obtain⟨v,z⟩:=C.cell y c h
  exact(bk _ _ z).2
 ·unfold L2.start
  show _=N.length;rw[au,af,bq,C.len];lia
def TN (o:Obj)(q:Str):Prop:=∃v t,o.data=.fields v/\v[1]? =some (.str q t)
def hW {k:Nat}{name:Str}{params:Arguments}{body:Expr}{pm ctv:Value}{c:Addr}{i:Obj}{u uc:HO}{m:Ev}(S:GD N scope)(C:ZX base N scope cl vs)(p:TN i qual)
  (g:∀(A:Around)(outer:b8)(s:Shared)(H:Hp)(E:XK),jd k (A.deeper (envX qual scope s.heap.objs.size a (.ref c) cl))->wO (kL P w K mg base N qual scope a (.ref c) cl A outer s H E) s.heap (kj K E)->
   SE (kL P w K mg base N qual scope a (.ref c) cl A outer s H E) (kj K E) body m):
  yt P w K mg base (wU P w) (k+1) a (kla_fn name qual params body scope cl pm (.ref c) ctv) [] (λus H Q E=>us=[]/\H a=some (.frz (kla_obj name qual params body scope cl pm c ctv) u)/\H c=some (.frz i uc)/\
   ∃φ A ws,zL K φ A H/\zF K φ H ws vs/\(m (ws.map some) A).post (PB K φ H Q) (EB K φ H (kj K E))):=by
 refine⟨λus H Q E h=>by rw[h.1];rfl,λA outer s H args us D Q E n l hb r h=>?_⟩
 obtain⟨rfl,h1,h2,φ,A1,ws,Sm,B,Z⟩:=h;cases r;have ho:s.heap.get? a=some (kla_obj name qual params body scope cl pm c ctv):=(show qZ P w H s.heap a (.frz _ u) from l.hok a _ h1).1
 have hc:s.heap.get? c=some i:=(show qZ P w H s.heap c (.frz i uc) from l.hok c _ h2).1
 have lim:s.heap.NoLimit:=l.mod.nolimit.keeps λb o e=>(l.bs b o e).1;obtain⟨L,M,z,hd2⟩:=p;refine kla_callFunE n.depth ho rfl S.co S.gen rfl ⟨c,i,L,M,rfl,hc,z,hd2⟩ (hb _ _ _ _ ?_);refine wpAny_newFunctionEnv S.nocell (λy X=>absurd (show y∈([]:List (Str×Value)) from X) (by simp)) (λd t j=>⟨lim.fresh _ j,?_⟩) S.kind
 show codeAny _ _ (.expr body (envX qual scope s.heap.objs.size a (.ref c) cl)) _ _;have f:∀b o,s.heap.get? b=some o->d.get? b=some o:=λb o e=>j.extBut b o (aO (aM e)) (ag _ e);have I:∀T,Inv (kL P w K mg base N qual scope a (.ref c) cl A outer s H E) [] (L2.start N vs) H { s with heap:=d,toks:=T }:=λT=>Ax S n.hd l C ⟨_,t⟩ f
 refine kla_codeExpr (wpAny_mono (g A outer s H E (n.deeper _) Mz [] _ (L2.start N vs) H Q (I _) ⟨φ,A1,_,Sm,RE.start (N:=N) B,?_⟩) (λv s' Y=>?_) λ_ _ y=>y)
 ·have:N.length-ws.length=0:=by rw[B.length,C.len];lia
  rw[this,List.replicate_zero,aX];exact Z
 ·obtain⟨x,H',J,U,q⟩:=Y
  exact⟨x,H',J.os,J.bare,J.base,J.hok,U,q⟩
end
inductive zdM (K:Frag)(a:Addr)(ob:Obj)(u:HO)(c:Addr)(oc:Obj)(uc:HO)(vs:List V)(g:Fn)(us:List V)(H:Hp)(Q:VK)(E:XK):Prop
 |mk (e:us=[]) (h1:H a=some (.frz ob u)) (h2:H c=some (.frz oc uc)) (φ:bU) (A:Hx) (ws:List W) (S:zL K φ A H) (r:zF K φ H ws vs) (q:(g ws A).post (PB K φ H Q) (EB K φ H (kj K E)))
def Jf (P:Program)(w:World)(K:Frag)(M:b0)(b:Heap)(j:Nat)(p:Obj->Addr->Obj->List V->Prop)(g:Fn):Prop:=
 ∀a ob u c o U v,p ob c o v->(∃fd,ob.data=.func fd)/\∃fd,yt P w K M b (wU P w) j a fd [] (zdM K a ob u c o U v g)/\∀s,BindsTo s fd ⟨[],[]⟩ []
open Classical in
def X3 (i:Nat)(PG:Nat->Obj->Addr->Obj->List V->Prop)(l:Nat->Fn):Ev:=λa A=>match a[i]? with|some (some (.clo k ws P))=>if P=PG k then l k ws A else .bad|_=>.bad
def WH (i j l:Nat)(c:bX)(PG:Nat->Obj->Addr->Obj->List V->Prop)(L:Nat->Fn):Ex:=λa A=>match X3 i PG L a A with|.ok _ b=>.ok (.nx a) b|.exc x b=>if c.contains x then .ok (.nx (((a.set l (some (.xc x))).set j (some (.xc x))).set l none)) b else .bad|.bad=>.bad
section
variable {K:Frag}
def RE.unset (r:RE K φ H ρ σ):RE K φ H (ρ.set i none) (σ.set i none):=
 ⟨by simp[r.len],λj u e=>by
  by_cases h:i=j
  ·subst h
   have a:i < ρ.length:=by
    have:=(cu.mp e).1
    simpa using this
   rw[av a]at e;cases e
  ·rw[aw h]at e
   obtain⟨x,c,b⟩:=r.get j u e;exact⟨x,by rw[aw h];exact c,b⟩⟩
end
def Ll (K:Frag)(c:bU)(H:Hp)(d:En)(j l:Nat)(D:Ends)(x:Str)(A:Hx):Prop:=∀a h b,Le K c H a h->zL K a A h->RE K a h (((d.set l (some (.xc x))).set j (some (.xc x))).set l none) b->D.nx b h
inductive zfi (K:Frag)(φ:bU)(H:Hp)(ρ:En)(j l:Nat)(D0:Ends)(ea C:Addr)(H':Hp):Prop
 |mk (xn:Str) (oF:bU) (A':Hx) (le:Le K φ H oF H') (S:zL K oF A' H') (rv:RV K oF H' (.xc xn) (.ref ea)) (n:Ll K φ H ρ j l D0 xn A')
inductive zeP (K:Frag)(φ:bU)(H:Hp)(ρ:En)(j l:Nat)(D0:Ends)(cs:bX)(Cv:Value)(d:cf)(H1:Hp):Prop
 |mk (xn:Str) (Ca:Addr) (e:Cv=.ref Ca) (hC:kG K xn (.ref Ca)) (hc:cs.contains xn=true) (oJ:bU) (A1:Hx) (le:Le K φ H oJ H1) (S:zL K oJ A1 H1) (n:Ll K φ H ρ j l D0 xn A1)
def La (K:Frag)(f:Str->Option Bool)(c:V):List V->Hp->VK->Prop:=λX H Q=>∃x,X=[x,c]/\((x=.non/\Q (.bl false) H)∨∃a o u C nm b,x=.ref a/\H a=some (.frz o u)/\o.cls=.ref C/\kG K nm (.ref C)/\f nm=some b/\Q (.bl b) H)
structure Ww (K:Frag)(f:Str->Option Bool)(c:Value):Prop where
 non:kitOne K (.type "NoneType") c=some false
 exc:∀nm C b,f nm=some b->kG K nm (.ref C)->K5 K C=true/\kitOne K (.ref C) c=some b
def yq (f:Str->Option Bool)(m:Ev):Ev:=λc A=>(m c A).bind λw a=>match w with
 |.non=>.ok (.bl false) a|.xc nm=>(match f nm with|some b=>.ok (.bl b) a|none=>.bad)
 |_=>.bad
section
variable {m:Ev}{f:Str->Option Bool}
def Om {cv:V}{c:Value}(g:Ww X.K f c)(n:∀u,RelV cv u->u=c):yB X (.builtin "isinstance") (La X.K f cv):=by
 intro p s y H z A Q I r h;obtain⟨x,rfl,h⟩:=h;obtain⟨u,l,rfl,e,d⟩:=vals2 r;cases n _ d;rcases h with ⟨rfl,q⟩|⟨a,o,U,C,nm,b,rfl,h1,h2,j,i,q⟩
 ·cases (show u=Value.none from e)
  exact hV I g.non λt=>⟨.bl false,H,I.tok t,rfl,q⟩
 ·cases (show u=Value.ref a from e)
  obtain⟨w,v⟩:=g.exc nm C b i j;exact hJ I h1 h2 w v λt=>⟨.bl b,H,I.tok t,rfl,q⟩
def yq.read {n:V}{t:TE}(p:∀σ H Q,Q n H->t σ H Q):∀σ H Q,tM X.K xr (yq f m) σ H Q->Vh (La X.K f n) (XC (tM X.K xr m) (XC t SO)) σ H Q:=by
 rintro σ H Q ⟨x,A,y,S,r,h⟩
 refine tM.go S r (zY.mp h) λw B c j v i l d q=>?_;refine p σ j _ ?_;cases w with
 |non=>
  obtain rfl:=q;exact⟨.non,rfl,.inl ⟨rfl,i c j _ l d rfl⟩⟩
 |xc nm=>
  dsimp only at i;cases e:f nm with
  |none=>rw[e]at i;exact i.elim|some b=>
   rw[e]at i;obtain⟨a,o,u,C,rfl,g,Z,z⟩:=q;exact⟨.ref a,rfl,.inr ⟨a,o,u,C,nm,b,rfl,g,Z,z,e,i c j _ l d rfl⟩⟩
 |fn _=>exact i.elim|bl _=>exact i.elim|int _=>exact i.elim|str _=>exact i.elim|tup _=>exact i.elim|ref _=>exact i.elim|clo _ _ _=>exact i.elim
end
def HK {a b:Int}{c C:Value}(l:bS)(h:TriplesOk l)(e:codeAmong o7 (l++[rawInt a,rawInt b,c])=some C):codeAmong o7 l=some C∨C=c:=by
 fun_induction TriplesOk l with
 |case1=>
  right
  simp only[bN,codeAmong,rawInt]at e
  split at e
  ·exact(aC e).symm
  ·cases e
 |case2 A t B u x r i=>
  simp only[List.cons_append,codeAmong]at e ⊢
  split at e
  ·rename_i H;rw[ai H];exact .inl e
  ·rename_i H;rw[aj H];exact i h e
 |case3 l f d=>exact h.elim
def BMain (M:b0)(b:Heap):Prop:=∃B o,M "__builtins__"=some (.ref B)/\B≠builtinsNs/\B≠mainGlobals/\b.get? B=some o/\o.cls=.type "module" /\ o.dict=some builtinsNs/\o.data=.plain
def XY (q:Str)(p:Arguments)(b:Expr)(scope:Scope)(C:b9):Obj->Addr->Obj->List V->Prop:=λob c o _=>(∃P v,ob=kla_obj "<lambda>" q p b scope C P c v)/\TN o q
def QN (n:Nat)(q:Str)(P:Addr)(k:Nat)(p:Obj->Addr->Obj->List V->Prop):Ev:=λ_ A=>match A[n]? with|some (.tab Q P')=>if Q=q/\P'=P then .ok (.clo k [] p) A else .bad|_=>.bad
section
variable {k:Nat}{q:Str}{P c:Addr}{params:Arguments}{body:Expr}{oQ:b9}
def hX (hB:BMain X.mg X.base)(y:X.env.code=.ref c)(C:CodeHd X.base c P)(hcl:closureFor scope X.env=pure oQ)(hq:X.env.qual ++ "<lambda>"=q)(hdef:defaultsOf params X.env=([],[]):=by rfl):
  SE X xr (.Lambda params body scope o7) (QN n q P k (XY q params body scope oQ)):=by
 intro o6 s σ H Q I ⟨φ,A,ρ,S,re,h⟩;unfold QN at h;cases Z:A[n]? with
 |none=>rw[Z]at h;exact h.elim|some o=>
  rw[Z]at h;cases o with
  |tab L P'=>
   dsimp only at h
   by_cases hc:L=q/\P'=P
   ·rw[ai hc]at h
    obtain⟨rfl,rfl⟩:=hc;obtain⟨a,ha,eaP,ps,t,Y⟩:=S.ob n _ Z;subst eaP;have hP:s.heap.get? a=some (tabObj ps):=(show qZ X.prog X.w H s.heap a (.tbl ps) from I.hok a _ t)
    have hg:s.heap.Ns mainGlobals X.mg:=I.mod.glob.keeps I.bk;have hgP:mainGlobals≠a:=λz=>by obtain⟨o,es,ep,e,hd,_⟩:=hg;rw[z,hP]at e;cases e;cases hd
    have r:s.heap.BuiltinsAt X.mg a:=by
     obtain⟨bm,o,b1,b2,b3,b4,b5⟩:=hB;refine⟨bm,o,b1,b2,b3,λz=>?_,I.bk _ _ b4,b5⟩
     have:=(I.bs _ _ b4).2
     rw[z,t]at this;cases this
    refine PySem.W.kla_eval hdef ?_;rw[hq];have M:∀b,s.heap.objs.size<=b->H b=none:=λb r=>I.hok.fresh r;cases hf:codeAmong o7 ps.toList with
    |none=>
     refine PySem.W.kla_makeFunction (mg:=X.mg) hcl I.ok.glob hg y (C.keeps I.bk) hP Y.1 hf hgP r λf ctv h' tk hx x U hrec htb=>?_;obtain⟨c2,g,vc,tc,ec,hoc,D,hd2⟩:=hrec;cases ec;generalize j:kla_obj "<lambda>" L params body scope oQ ((X.mg "__name__").getD .none) f ctv=ob;have hPc:a<s.heap.objs.size:=aM hP;have nPc:a≠f:=aO (aJ hPc x);have nPf:a≠h'.objs.size:=aO (lt_trans (aJ hPc x) U);have T:f≠h'.objs.size:=aO U;have hsf:s.heap.objs.size<=h'.objs.size:=a4 x (bL U);have E:H f=none:=M f x;have l:H h'.objs.size=none:=M _ hsf;have H1f:upd H f (.frz g (.own 0)) h'.objs.size=none:=by rw[qx (Ne.symm T)];exact l
     generalize B:ps++#[rawInt o7.line,rawInt o7.col,.ref f]=p at htb;have S1:=S.lay (u:=.frz g (.own 0)) E;have S2:=S1.lay (u:=.frz ob (.own 0)) H1f;have fz:∀b o u,upd (upd H f (.frz g (.own 0))) h'.objs.size (.frz ob (.own 0)) b=some (.frz o u)->upd (upd (upd H f (.frz g (.own 0))) h'.objs.size (.frz ob (.own 0))) a (.tbl p) b=some (.frz o u):=λb o u e=>by rw[qx];exact e;intro z;rw[z,qx nPf,qx nPc,t]at e;cases e
     have fz0:∀b o u,H b=some (.frz o u)->upd (upd H f (.frz g (.own 0))) h'.objs.size (.frz ob (.own 0)) b=some (.frz o u):=λb o u e=>by rw[qx (wq e l),qx (wq e E)];exact e
     have tg':Wx (upd (upd (upd H f (.frz g (.own 0))) h'.objs.size (.frz ob (.own 0))) a (.tbl p)) L p:=by
      rw[<- B];refine⟨by rw[Array.toList_append];exact TriplesOk_snoc _ _ _ _ Y.1,λpos' cv e=>?_⟩
      rw[Array.toList_append]at e;rcases HK _ Y.1 e with e|e
      ·obtain⟨c0,oc0,u0,vs0,t0,g1,g2,g3⟩:=Y.2 pos' cv e
       exact⟨c0,oc0,u0,vs0,t0,g1,by rw[B];exact fz _ _ _ (fz0 _ _ _ g2),g3⟩
      ·exact⟨f,g,.own 0,vc,tc,e,by rw[B];exact fz _ _ _ (by rw[qx T,jY]),D,hd2⟩
     obtain⟨l3,S3⟩:=S2.write (o:=.tab L a) (o':=.tab L a) Z rfl rfl ha (u:=.tbl p) ⟨rfl,p,jY,tg'⟩;have l03:Le X.K φ H φ _:=((Le.new E).trans (Le.new H1f)).trans l3;have set3:A.set n (.tab L a)=A:=by
      apply ext_getElem?
      intro i
      by_cases hi:n=i
      ·subst hi
       rw[av (cu.mp Z).1,Z]
      ·rw[aw hi]
     rw[set3]at S3;have eP:upd (upd (upd H f (.frz g (.own 0))) h'.objs.size (.frz ob (.own 0))) a (.tbl p) a=some (.tbl p):=jY;have ec:upd (upd (upd H f (.frz g (.own 0))) h'.objs.size (.frz ob (.own 0))) a (.tbl p) f=some (.frz g (.own 0)):=by rw[qx (Ne.symm nPc),qx T,jY]
     have ef:upd (upd (upd H f (.frz g (.own 0))) h'.objs.size (.frz ob (.own 0))) a (.tbl p) h'.objs.size=some (.frz ob (.own 0)):=by rw[qx (Ne.symm nPf),jY]
     have J:∀b,b≠a->b≠f->b≠h'.objs.size->upd (upd (upd H f (.frz g (.own 0))) h'.objs.size (.frz ob (.own 0))) a (.tbl p) b=H b:=λb n1 n2 n3=>by rw[qx n1,qx n3,qx n2]
     generalize upd (upd (upd H f (.frz g (.own 0))) h'.objs.size (.frz ob (.own 0))) a (.tbl p)=H3 at S3 l03 eP ec ef J;have kp:∀b o,b≠a->s.heap.get? b=some o->(h'.push ob).get? b=some o:=λb o n e=>ag _ (hx b o n e);have old:∀b o,s.heap.get? b=some o->b≠f/\b≠h'.objs.size:=λb o e=>⟨aO (aJ (aM e) x),aO (aJ (aM e) hsf)⟩;have N:∀b u,H b=some u->b≠f/\b≠h'.objs.size:=λb u e=>⟨wq e E,wq e l⟩;have gP:(h'.push ob).get? a=some (tabObj p):=ag _ htb;have I3:Inv X o6 σ H3 { s with heap:=h'.push ob,toks:=tk }:=by
      refine I.un ⟨λb o e z r _=>?_,λb o e z r _=>?_,λb o e z _=>?_,λb o e _=>?_,λb xs e=>?_,λb o u e=>?_,λb qs e=>?_⟩ λb u e=>?_
      ·exact kp b o (λw=>by rw[w,t]at z;cases z) e
      ·exact⟨o.slots,kp b o (λw=>by rw[w,t]at z;cases z) e⟩
      ·rw[J b (λw=>by rw[w,t]at z;cases z) (old b o e).1 (old b o e).2];exact z
      ·by_cases r:b=a
       ·rw[r];exact⟨_,gP⟩
       ·exact⟨o,kp b o r e⟩
      ·rw[J b (YY e t (by intro w;cases w)) (N b _ e).1 (N b _ e).2];exact e
      ·rw[J b (YY e t (by intro w;cases w)) (N b _ e).1 (N b _ e).2];exact e
      ·by_cases r:b=a
       ·subst r
        rw[t]at e;cases e;exact⟨_,by rw[eP,<- B]⟩
       ·exact⟨#[],by rw[J b r (N b _ e).1 (N b _ e).2,e];simp⟩
      ·by_cases h1:b=a
       ·subst h1
        rw[eP]at e;cases e;exact gP
       ·by_cases h2:b=f
        ·subst h2
         rw[ec]at e;cases e;exact⟨ag _ hoc,⟨_,ag _ hoc⟩⟩
        ·by_cases h3:b=h'.objs.size
         ·subst h3
          rw[ef]at e;cases e;exact⟨aD _ (by rw[<- j];rfl),⟨_,aD _ (by rw[<- j];rfl)⟩⟩
         ·rw[J b h1 h2 h3]at e
          refine(I.hok b u e).stay (λd v hd z=>kp d v ?_ z) (λd z=>?_) λd xs z=>?_
          ·rcases hd with w|w
           ·rw[w];exact h1
           ·exact YY w t (by intro w;cases w)
          ·rw[J d (YY z t (by intro w;cases w)) (N d _ z).1 (N d _ z).2];exact z
          ·rw[J d (YY z t (by intro w;cases w)) (N d _ z).1 (N d _ z).2];exact z
     exact⟨.ref h'.objs.size,H3,I3,rfl,h φ H3 _ l03 S3 ⟨h'.objs.size,ob,.own 0,f,g,.own 0,[],rfl,ef,ec,⟨⟨_,_,j.symm⟩,vc,tc,D,hd2⟩,rfl⟩⟩
    |some cv=>
     obtain⟨f,g,u0,vc,tc,rfl,hHc,D,hd2⟩:=Y.2 o7 cv hf;refine PySem.W.kla_makeFunctionHit (mg:=X.mg) hcl I.ok.glob hg y (C.keeps I.bk) hP Y.1 hf r λctv h' tk hx hsz=>?_;generalize j:({ cls:=.type "function",data:=.func (kla_fn "<lambda>" L params body scope oQ ((X.mg "__name__").getD .none) (.ref f) ctv) }:Obj)=ob;have l:H h'.objs.size=none:=M _ hsz;have I3:Inv X o6 σ (upd H h'.objs.size (.frz ob (.own 0))) { s with heap:=h'.push ob,toks:=tk }:=
      I.laid (λb o e=>ag _ (hx b o e)) hsz ⟨aD _ (by rw[<- j];rfl),⟨_,aD _ (by rw[<- j];rfl)⟩⟩
     refine⟨.ref h'.objs.size,_,I3,rfl,h φ _ _ (Le.new l) (S.lay l) ⟨h'.objs.size,ob,.own 0,f,g,u0,[],rfl,jY,?_,⟨⟨_,_,j.symm⟩,vc,tc,D,hd2⟩,rfl⟩⟩;rw[qx (wq hHc l)];exact hHc
   ·rw[aj hc]at h;exact h.elim
  |_=>exact h.elim
end
structure Lm where
 N:bX
 idx:bW
 params:Arguments
 body:Expr
 scope:Scope
 m:Ev
noncomputable def QM:List Nat->En->Option (List W)
 |[],_=>some []|j::J,ρ=>match ρ[j]?,QM J ρ with|some (some w),some ws=>some (w::ws)|_,_=>none
def Z7:List Nat->St->Option (List V)
 |[],_=>some []|j::J,σ=>match σ[j]?,Z7 J σ with|some (some w),some ws=>some (w::ws)|_,_=>none
theorem Us {K:Frag}(r:RE K φ H ρ σ):∀{J:bW}{d:List W},QM J ρ=some d->∃vs,Z7 J σ=some vs/\zF K φ H d vs
 |[],d,e=>by cases e;exact⟨[],rfl,.nil⟩|j::J,d,e=>by
  unfold QM at e;cases E:ρ[j]? with
  |none=>rw[E]at e;cases e|some ow=>cases ow with
   |none=>rw[E]at e;cases e|some w=>
    rw[E]at e;cases a:QM J ρ with
    |none=>rw[a]at e;cases e|some b=>
     rw[a]at e;cases e;obtain⟨v,g,f⟩:=r.get j w E;obtain⟨vs,c,h⟩:=Us r a;exact⟨v::vs,by unfold Z7;rw[g,c],.cons f h⟩
theorem Oq:∀{J:bW}{f:List V},Z7 J σ=some f->f.length=J.length/\∀(i:Nat)(v:V),f[i]? =some v->∃j,J[i]? =some j/\σ[j]? =some (some v)
 |[],f,e=>by cases e;exact⟨rfl,λi v h=>by simp at h⟩|j::J,f,e=>by
  unfold Z7 at e;cases E:σ[j]? with
  |none=>rw[E]at e;cases e|some ow=>cases ow with
   |none=>rw[E]at e;cases e|some w=>
    rw[E]at e;cases r:Z7 J σ with
    |none=>rw[r]at e;cases e|some c=>
     rw[r]at e;cases e;obtain⟨g,H⟩:=Oq r;refine⟨by simp[g],λi v h=>?_⟩
     cases i with|zero=>simp at h;subst h;exact⟨j,by simp,E⟩|succ i=>simp at h;obtain⟨d,a,b⟩:=H i v h;exact⟨d,by simpa using a,b⟩
def gr (l:List Lm)(k:Nat):Fn:=λw A=>match l[k]? with|some t=>t.m (w.map some) A|none=>.bad
def gX (e:Env)(q:Str)(l:List Lm)(k:Nat):Obj->Addr->Obj->List V->Prop:=λob c o v=>∃t,l[k]? =some t/\XY q t.params t.body t.scope (kX e t.scope.names []) ob c o v
def gA (e:Env)(q:Str)(l:List Lm)(a:St)(k:Nat):Obj->Addr->Obj->List V->Prop:=λob c o v=>∃t,l[k]? =some t/\XY q t.params t.body t.scope (kX e t.scope.names []) ob c o v/\Z7 t.idx a=some v
structure XT (P:Program)(w:World)(K:Frag)(mg:b0)(j:Nat)(q:Str)(t:Lm):Prop where
 sc:GD t.N t.scope
 bind:∀(cl:b9)(pm cdv ctv:Value),bindArgs (kla_fn "<lambda>" q t.params t.body t.scope cl pm cdv ctv) ⟨[],[]⟩=pure []
 body:∀(base:Heap)(cl:b9)(a c:Addr)(A:Around)(outer:b8)(s:Shared)(H:Hp)(E:XK),jd j (A.deeper (envX q t.scope s.heap.objs.size a (.ref c) cl))->wO (kL P w K mg base t.N q t.scope a (.ref c) cl A outer s H E) s.heap (kj K E)->
  SE (kL P w K mg base t.N q t.scope a (.ref c) cl A outer s H E) (kj K E) t.body t.m
abbrev Zh:=Nat->Obj->Addr->Obj->List V->Prop
open Classical in
def QK (PG:Zh)(r:Nat->List W->Hx->R W):Fn:=λu A=>match u with|[.clo k ws P]=>if P=PG k then r k ws A else .bad|_=>.bad
open Classical in
structure XW (X:Cx)(t:Lm):Prop where
 len:t.idx.length=t.N.length
 nm:∀(i:Nat)(x:Str)(j:Nat),t.N[i]? =some x->t.idx[i]? =some j->X.N[j]? =some x/\t.scope.names.lookup x=some .free
 free:∀y∈t.scope.names,y.2=.free->X.env.kindOf y.1=some .cell∨X.env.kindOf y.1=some .free
section
variable {s:Shared}
def GG (I:Inv X o6 σ H s){t:Lm}(L:XW X t){c:Addr}(h:(kX X.env t.scope.names []).lookup x=some c):X.env.cells.lookup x=some c:=by
 rcases Ju _ _ (PySem.mem_of_lookup h) with z|⟨z,e⟩
 ·cases z
 ·obtain⟨C,a⟩:=I.ok.has x (L.free _ z rfl)
  rw[a]at e ⊢;exact congrArg some e.symm
def OP (I:Inv X o6 σ H s)(d:∀x c v,X.env.cells.lookup x=some c->s.heap.IsCell c v->base.IsCell c v){t:Lm}(L:XW X t)(g:Z7 t.idx σ=some vs):ZX base t.N t.scope (kX X.env t.scope.names []) vs:=by
 obtain⟨B,A⟩:=Oq g;refine⟨B.trans L.len,λx y c w q=>I.ok.inj x y c (GG I L w) (GG I L q),λx h=>?_,λx c h=>?_,λi x v w q=>?_⟩
 ·exact Option.isSome_iff_exists.mp (Gs _ _ (.inl (PySem.mem_of_lookup h)))
 ·have e:=GG I L h
  obtain⟨v,z⟩:=I.cell x c e;exact⟨v,d x c v e z⟩
 ·obtain⟨j,p,o⟩:=A i v q
  obtain⟨n,E⟩:=L.nm i x j w p;have fr:=L.free _ (PySem.mem_of_lookup E) rfl;obtain⟨m,J,l⟩:=I.loc;obtain⟨u,r,D⟩:=l j x v n o (.inr fr);obtain⟨c,b⟩:=Option.isSome_iff_exists.mp (Gs (env:=X.env) t.scope.names [] (.inl (PySem.mem_of_lookup E)));have f:=GG I L b;rcases D with ⟨z,_⟩|⟨_,C,a,cell⟩
  ·exfalso
   rcases fr with k|k<;>(rw[k]at z;cases z)
  ·rw[f]at a
   cases a;exact⟨c,u,E,b,d x c _ f cell,r⟩
def hZ (I:Inv X o6 σ H s)(h:∀x,X.fn x=true){c:Addr}(e:X.env.cells.lookup x=some c):c∉qJ X.stack:=λb=>by
 rcases cw.mp (I.stkSub c b) with z|z
 ·exact I.cne x c e z
 ·obtain⟨_,o,a,_⟩:=I.ok.funs.mem z
  exact absurd (aJ (aM a) (I.ok.cab x c (h x) e)) (aT _)
def gM (B h:Heap)(c:b9):Heap:=hideAll h ((List.range h.objs.size).filter λb=>(B.get? b).isNone&&!(c.any λp=>c.lookup p.1==some b))
def OQ {o:Obj}(e:(gM base h oM).get? b=some o):h.get? b=some o/\((∃o',base.get? b=some o')∨∃x,oM.lookup x=some b):=by
 have E:=of_hideAll _ e;refine⟨E,?_⟩
 by_cases d:b∈(List.range h.objs.size).filter λb=>(base.get? b).isNone&&!(oM.any λp=>oM.lookup p.1==some b)
 ·unfold gM at e
  rw[hideAll_none _ d]at e;cases e
 ·rw[mem_filter]at d
  have c:b∈List.range h.objs.size:=cm.mpr (aM E);cases g:base.get? b with
  |some o'=>exact .inl ⟨o',rfl⟩|none=>
   right
   by_cases H:(oM.any λp=>oM.lookup p.1==some b)=true
   ·obtain⟨p,_,a⟩:=List.any_eq_true.mp H
    exact⟨p.1,aL.mp a⟩
   ·exact absurd ⟨c,by rw[g];simpa using H⟩ d
def EC (k:∀b o,base.get? b=some o->h.get? b=some o){o:Obj}(e:base.get? b=some o):(gM base h oM).get? b=some o:=
 bJ _ (k b o e) λH=>by rw[mem_filter,e]at H;simp at H
def Pr {c:Addr}{o:Obj}(l:oM.lookup x=some c)(e:h.get? c=some o):(gM base h oM).get? c=some o:=
 bJ _ e λH=>by
  rw[mem_filter,ak,not_eq_true']at H
  have:=H.2.2
  rw[List.any_eq_false]at this;exact this _ (PySem.mem_of_lookup l) (by simpa using l)
variable {j:Nat}
end
inductive spT (K:Frag)(n:Nat)(fs:Zh->Fn)(vs:List V)(H:Hp)(Q:VK)(E:XK):Prop
 |mk (len:vs.length=n) (φ:bU) (A:Hx) (ws:List W) (S:zL K φ A H) (r:zF K φ H ws vs) (q:∀PF,(fs PF ws A).post (PB K φ H Q) (EB K φ H (XE K E)))
def spT.len {K:Frag}{fs:Zh->Fn}{Q:VK}{E:XK}(h:spT K n fs vs H Q E):vs.length=n:=by cases h;assumption
section
variable {K:Frag}
def C4 {c:Addr}{a:Value}{o:cf}{fd:FuncData}(n:nsIn K mainGlobals x=some (some (.ref f)))(l:K.lookup f=some ⟨a,o,.func fd,oR⟩)(H:tabIn K x=some (c,Pt)):fd.code=.ref c:=by
 unfold tabIn at H;rw[n]at H;dsimp only at H;rw[l]at H;dsimp only at H
 split at H
 ·rename_i c2 h
  split at H
  ·split at H
   ·cases H;exact h
   ·cases H
  ·cases H
 ·cases H
def h7 {q:Str}{L:Stmt}{c:Addr}{fd:FuncData}{ps:bX}{k:Nat}{ls:List Lm}{m:Zh->Ex}(F:wm K x x L f fd)(hn:nsIn K mainGlobals x=some (some (.ref f)))(ht:tabIn K x=some (c,Pt))(S:wy N ps (qj L))
  (a:∀(A:Around)(I:b8)(s:Shared)(H:Hp)(E:XK),jd k (A.deeper (envOfC x (qj L) s.heap.objs.size f (.ref c)))->
   Yb (kg kO P w K mg base N x (qj L) f (.ref c) A I s H E).nox jX (j6 L) (m (gX (envOfC x (qj L) s.heap.objs.size f (.ref c)) q ls))):
  yt P w K mg base kO (k+1) f fd ps (spT K ps.length λt=>qz N.length (m t)):=by
 obtain⟨B,z,kV,doc,pm,an,C,ct,o,rfl,X,d⟩:=F.ex;have v:C=.ref c:=C4 hn X ht;subst v;refine T7 X d S (λZ H Q E h=>h.len) λA I s H Z Q E i ⟨D,T,Y,M,n,r,h⟩=>⟨_,yV.nox (a A I s H E i),?_⟩;refine⟨T,Y,M.map some++List.replicate (N.length-M.length) none,n,RE.start r,?_⟩;have J:=zY.mp (h (gX (envOfC x (qj L) s.heap.objs.size f (.ref c)) q ls));show R.post _ (FB K T H _) _;cases e:m (gX (envOfC x (qj L) s.heap.objs.size f (.ref c)) q ls) (M.map some++List.replicate (N.length-M.length) none) Y with
 |ok j A2=>
  rw[e]at J;cases j with|rt w=>exact J|nx U=>exactλb u g l p _=>J b u .non l p rfl|bk U=>exact J.elim|ct U=>exact J.elim
 |exc y A2=>rw[e]at J;exact J.elim|bad=>rw[e]at J;exact J.elim
end
def Xv (K:Frag)(x:Str)(p:Addr):Bool:=match tabIn K x with|some (c,P)=>P==p&&codeHdIn K c p|none=>false
set_option tactic.hygienic true in
def Gz {K:Frag}(h:Xv K x Pt=true):∃c,tabIn K x=some (c,Pt)/\codeHdIn K c Pt=true:=by
 unfold Xv at h
 split at h
 ·rename_i c P e
  rw[ak,aL]at h;obtain⟨rfl,H⟩:=h;exact⟨c,e,H⟩
 ·cases h
def yw.m {K:Frag}{k:Nat}{f:Fn}(F:yw P w K mg base k x n f):qR P w K mg base k x n λws A=>(f ws A).nox:=by
 obtain⟨fa,fd,ps,F,B,c,d⟩:=F;have up:∀i H Q E,Zq K n (λws A=>(f ws A).nox) i H Q E->Vk K n f i H Q (λ_ _ _=>False):=λi H Q E ⟨l,q,A,ws,S,r,h⟩=>⟨l,q,A,ws,S,r,by
  cases a:f ws A with|ok u D=>(try dsimp only at h);rw[a]at h;exact h|exc y D=>(try dsimp only at h);rw[a]at h;exact h.elim|bad=>(try dsimp only at h);rw[a]at h;exact h.elim⟩
 refine⟨fa,fd,ps,⟨λi H Q E h=>F.len i H Q _ (up i H Q E h),λA o s H j U i Q E b C t v h=>?_⟩,B,c,d⟩;refine codeAny_mono (F.run A o s H j U i Q _ b C t v (up i H Q E h)) λr I p=>?_;cases r with
 |error e=>
  unfold CR at p;obtain⟨_,_,_,_,_,_,_,_,_,_,z⟩:=p;exact z.elim
 |ok g=>cases g<;>exact p
theorem yw.mono {K:Frag}{j k:Nat}{f:Fn}(F:yw P w K mg base j x n f)(h:j<=k):yw P w K mg base k x n f:=by cases F with|mk fa fd ps F a b c=>exact⟨fa,fd,ps,F.mono h,a,b,c⟩
abbrev Vu:bS:=[.type "ValueError",.type "Exception",.type "BaseException",.type "object"]
abbrev X6:String := "ValueError.__new__"
section
variable {K:Frag}{cs:bX}{top nm:Str}
noncomputable def clsAt (K:Frag)(x:Str):Addr:=match nsIn K mainGlobals x with|some (some (.ref C))=>C|_=>0
def isAt (K:Frag)(x:Str):Bool:=nsIn K mainGlobals x==some (some (.ref (clsAt K x)))
def ku (c:bX)(x:Str):Str->Option Bool:=λnm=>if c.contains nm then some (nm==x) else none
def Rg (c:bX):Str->Option Bool:=λnm=>if c.contains nm then some true else none
def Q6 (K:Frag)(c:bX)(x:Str):Bool:=isAt K x&&kitOne K (.type "NoneType") (.ref (clsAt K x))==some false&&c.all λnm=>kitOne K (.ref (clsAt K nm)) (.ref (clsAt K x))==some (nm==x)
def Xa (K:Frag)(top nm:Str):Bool:=isAt K nm&&K5 K (clsAt K nm)&&Mi.ZJ K (clsAt K nm) Vu X6&&J1 K (clsAt K nm) (clsAt K top)&&kitOne K (.ref (clsAt K nm)) (.type "ValueError")==some true
def Tv (K:Frag)(top:Str):Bool:=isAt K top&&Mi.ZJ K (clsAt K top) Vu X6&&kitOne K (.type "NoneType") (.type "ValueError")==some false
def U5 (h:isAt K x=true):kG K x (.ref (clsAt K x)):=aL.mp h
def UL {C:Addr}(h:kG K x (.ref C)):C=clsAt K x:=by unfold clsAt;unfold kG at h;rw[h]
structure UD (K:Frag)(top nm:Str):Prop where
 at_:kG K nm (.ref (clsAt K nm))
 kit:K5 K (clsAt K nm)=true
 exc:Mi.ZJ K (clsAt K nm) Vu X6=true
 up:J1 K (clsAt K nm) (clsAt K top)=true
 val:kitOne K (.ref (clsAt K nm)) (.type "ValueError")=some true
def h8 (h:Xa K top nm=true):UD K top nm:=by unfold Xa at h;simp only[ak,aL]at h;obtain⟨⟨⟨⟨d,c⟩,b⟩,a⟩,H⟩:=h;exact⟨U5 d,c,b,a,H⟩
structure gu (K:Frag)(cs:bX)(top:Str):Prop where
 exc:∀nm,cs.contains nm=true->UD K top nm
 top_at:kG K top (.ref (clsAt K top))
 top_exc:Mi.ZJ K (clsAt K top) Vu X6=true
 non:kitOne K (.type "NoneType") (.type "ValueError")=some false
def ia (h:cs.all (Xa K top ·)=true)(t:Tv K top=true):gu K cs top:=by unfold Tv at t;simp only[ak,aL]at t;obtain⟨⟨b,T⟩,a⟩:=t;exact⟨λnm e=>h8 (cy.mp h nm (List.contains_iff_mem.mp e)),U5 b,T,a⟩
def gu.isx (c:gu K cs top)(h:Q6 K cs x=true):Ww K (ku cs x) (.ref (clsAt K x)):=by
 unfold Q6 at h;simp only[ak,aL]at h;obtain⟨⟨g,f⟩,a⟩:=h;refine⟨f,λnm C b e H=>?_⟩;unfold ku at e
 by_cases d:cs.contains nm=true
 ·rw[ai d]at e
  cases e;cases UL H;exact⟨(c.exc nm d).kit,aL.mp (cy.mp a nm (List.contains_iff_mem.mp d))⟩
 ·rw[aj d]at e;cases e
def kY (h:Q6 K cs x=true):kG K x (.ref (clsAt K x)):=by unfold Q6 at h;simp only[ak,aL]at h;exact U5 h.1.1
def gu.isv (c:gu K cs top):Ww K (Rg cs) (.type "ValueError"):=by
 refine⟨c.non,λnm C b e h=>?_⟩;unfold Rg at e
 by_cases H:cs.contains nm=true
 ·rw[ai H]at e
  cases e;cases UL h;exact⟨(c.exc nm H).kit,(c.exc nm H).val⟩
 ·rw[aj H]at e;cases e
def gu.under (c:gu K cs top):∀nm,cs.contains nm=true->∀C,kG K nm (.ref C)->∃b n,Mi.ZJ K C b n=true/\J1 K C (clsAt K top)=true:=λnm H C h=>by cases UL h;exact⟨_,_,(c.exc nm H).exc,(c.exc nm H).up⟩
end
def Wv (M:bX)(S:Scope)(t:Lm):Bool:=t.idx.length==t.N.length&&((List.range t.N.length).all λi=>match t.N[i]?,t.idx[i]? with|some x,some j=>M[j]?==some x&&t.scope.names.lookup x==some .free|_,_=>false)&&t.scope.names.all λy=>!(y.2==.free) || (S.names.lookup y.1==some .cell || S.names.lookup y.1==some .free)
def G5 {t:Lm}(h:Wv X.N X.env.scope t=true):XW X t:=by
 unfold Wv at h;rw[ak,ak]at h;obtain⟨⟨f,d⟩,b⟩:=h;refine⟨aL.mp f,λi x j E c=>?_,λy H e=>?_⟩
 ·have a:i<t.N.length:=(cu.mp E).1
  have q:=cy.mp d i (cm.mpr a);rw[E,c]at q;dsimp only at q;rw[ak]at q;exact⟨aL.mp q.1,aL.mp q.2⟩
 ·have q:=cy.mp b y H
  rw[e]at q;rw[a3,a3]at q;rcases q with q|q|q
  ·cases q
  ·exact .inl (aL.mp q)
  ·exact .inr (aL.mp q)
def ib {q:Str}{l:List Lm}{k:Nat}{t:Lm}(H:l[k]? =some t):gX env q l k=XY q t.params t.body t.scope (kX env t.scope.names []):=by
 funext ob c o vs
 refine propext ⟨λ⟨T,e,h⟩=>?_,λh=>⟨t,H,h⟩⟩;rw[H]at e;cases e;exact h
section
variable {k:Nat}{q:Str}{c:Addr}{ls:List Lm}{t:Lm}
def NF (i:ls[k]? =some t)(L:Wv X.N X.env.scope t=true)(B:BMain X.mg X.base)(a:X.env.code=.ref c)(C:CodeHd X.base c Pt)(d:X.env.qual ++ "<lambda>"=q)(f:defaultsOf t.params X.env=([],[])):
  SE X xr (.Lambda t.params t.body t.scope o7) (QN n q Pt k (gX X.env q ls k)):=by
 intro p s g H Q I h;rw[ib i]at h;exact hX B a C (Pp λy b e=>I.ok.has _ ((G5 L).free y b e)) d f p s g H Q I h
end
noncomputable def QA:Stmt:=.Pass ⟨0,0,0,0⟩
noncomputable def Z4:Expr:=.Constant .none 0 ⟨0,0,0,0⟩
def SY (s:Stmt)(i:Nat):Stmt:=match s with|.For _ _ b _ _=>b.getD i QA|.If _ b _ _=>b.getD i QA|.While _ b _ _=>b.getD i QA|_=>QA
def ic (s:Stmt):Expr:=match s with|.Assign _ v _=>v|.Expr v _=>v|.Return (some v) _=>v|_=>Z4
def Y4 (e:Expr)(i:Nat):Expr:=match e with|.Call _ a _ _=>a.getD i Z4|.List E _=>E.getD i Z4|.Tuple E _ _=>E.getD i Z4|.BinOp a _ b _=>if i=0 then a else b|_=>Z4
def ie (e:Expr):Arguments:=match e with|.Lambda a _ _ _=>a|_=>{ posonlyargs:=[],args:=[],vararg:=none,kwonlyargs:=[],kw_defaults:=[],kwarg:=none,defaults:=[] }
def ig (e:Expr):Expr:=match e with|.Lambda _ b _ _=>b|_=>Z4
def ih (e:Expr):Scope:=match e with|.Lambda _ _ s _=>s|_=>{ kind:=.function,names:=[],isGenerator:=false,isCoroutine:=false }
def WD (e:Expr)(N:bX)(i:bW)(m:Ev):Lm:=⟨N,i,ie e,ig e,ih e,m⟩
def ij {K:Frag}{S:Stmt}{fd:FuncData}{ps:bX}{k:Nat}(F:wm K x x S f fd)(e:mg x=some (.ref f))
  (b:∀(kV d p:Value)(n:cf)(c ct:Value)(u:bS),u.length=ps.length->bindArgs (fnOf x x (Za S) (j6 S) (qj S) .none kV d p n c ct) ⟨u,[]⟩=pure (ps.zip u)):qR P w K mg base k x ps.length (λ_ _=>.bad):=
 ⟨f,fd,ps,⟨λv H Q E h=>h.1,λA o s H a u v Q E _ _ _ _ h=>by obtain⟨_,_,_,_,_,_,z⟩:=h;exact z.elim⟩,e,F.kp,F.binds b⟩
def ik {K:Frag}(t a b:Ty):kitAny K (.type t.nm) [.type a.nm,.type b.nm]=some (kK t a || kK t b):=by
 unfold kitAny;rw[GU];cases kK t a with
 |true=>rfl|false=>
  dsimp only;unfold kitAny;rw[GU];cases kK t b<;>rfl
section
variable {a b:Expr}{m ma mb:Ev}
def Ye.kitx {s:Shared}{x:V}{t:Ty}(I:Inv X o6 σ H s)(r:RelV x u)(h:Ye X.K H x t):∃b:Heap->Prop,PySem.W.KitX X.K u (.type t.nm) b/\b s.heap/\u≠.builtin "__main__.__loader__#opaque":=by
 rcases h with h|⟨a,xs,rfl,h,rfl⟩
 ·generalize hT:Value.type t.nm=T at h
  cases h with
  |non=>cases (show u=Value.none from r);exact⟨_,kitx_none,True.intro,λz=>nomatch z⟩
  |bl y=>cases (show u=Value.bool y from r);exact⟨_,kitx_bool,True.intro,λz=>nomatch z⟩
  |int i=>obtain⟨t,q⟩:=(show ∃t,u=Value.int i t from r);cases q;exact⟨_,kitx_int,True.intro,λz=>nomatch z⟩
  |str y=>obtain⟨t,q⟩:=(show ∃t,u=Value.str y t from r);cases q;exact⟨_,kitx_str,True.intro,λz=>nomatch z⟩
  |flt y=>obtain⟨t,q⟩:=(show ∃t,u=Value.float y t from r);cases q;exact⟨_,kitx_float,True.intro,λz=>nomatch z⟩
  |@lst a xs ea=>
   cases (show u=Value.ref a from r)
   obtain⟨_,_,n,_,d⟩:=(show qZ X.prog X.w H s.heap a (.lst xs) from I.hok a _ ea)
   exact⟨_,kitx_list,⟨_,d,rfl⟩,λz=>nomatch z⟩
  |@frz a ob xs ea=>
   cases (show u=Value.ref a from r)
   obtain⟨_,_,_,n,_,d⟩:=(show qZ X.prog X.w H s.heap a (.frz ob (.lst xs)) from I.hok a _ ea)
   exact⟨_,kitx_list,⟨_,d,rfl⟩,λz=>nomatch z⟩
  |@tup a xs ea=>
   cases (show u=Value.ref a from r)
   obtain⟨_,_,_,p⟩:=(show qZ X.prog X.w H s.heap a (.tup xs) from I.hok a _ ea)
   obtain⟨o,d,e,_⟩:=p;exact⟨_,kitx_tuple,⟨o,d,e.1⟩,λz=>nomatch z⟩
  |@dK a kvs ea=>
   cases (show u=Value.ref a from r)
   obtain⟨_,_,_,_,o,_,_,d,e,_⟩:=(show qZ X.prog X.w H s.heap a (.dK kvs) from I.hok a _ ea)
   exact⟨_,kitx_dict,⟨o,d,e.1⟩,λz=>nomatch z⟩
  |@dT a kvs ea=>
   cases (show u=Value.ref a from r)
   obtain⟨_,_,_,_,o,_,_,d,e,_⟩:=(show qZ X.prog X.w H s.heap a (.dT kvs) from I.hok a _ ea)
   exact⟨_,kitx_dict,⟨o,d,e.1⟩,λz=>nomatch z⟩
  |ins=>cases hT
 ·cases (show u=Value.ref a from r)
  obtain⟨c,_,⟨o,d,e,_⟩,_⟩:=I.tuple h;exact⟨_,kitx_tuple,⟨o,d,e⟩,λz=>nomatch z⟩
def il (K:Frag)(a b:Ty):List V->Hp->VK->Prop:=λX H Q=>∃x t l,X=[x,.ref l]/\qF K H l [.ty (Ty.nm a),.ty (Ty.nm b)]/\Ye K H x t/\Q (.bl (kK t a || kK t b)) H
def D4 {a b:Ty}:yB X (.builtin "isinstance") (il X.K a b):=by
 intro P s L H M S Q I r h;obtain⟨x,t,l,rfl,w,D,q⟩:=h;obtain⟨u,e,rfl,f,c⟩:=vals2 r;cases (show e=Value.ref l from c)
 obtain⟨p,v,⟨o,J,E,k,y⟩,_⟩:=I.tuple w;obtain⟨d,U,rfl,i,g⟩:=vals2 v;cases (show d=Value.type a.nm from i)
 cases (show U=Value.type b.nm from g)
 obtain⟨C,Z,z,N⟩:=D.kitx I f;obtain⟨n,B,j,A⟩:=o;cases (show n=_ from E)
 cases (show j=_ from y)
 exact PySem.W.kia_tup Z I.kIn z J (ik t a b) N λT=>⟨.bl (kK t a || kK t b),H,I.tok T,rfl,q⟩
def XN (t T:Ty)(m:Ev):Ev:=λc A=>(m c A).bind λw b=>match jM w b with
 |some a=>.ok (.bl (kK a t || kK a T)) b
 |none=>.bad
def XO (m:Ev)(t:Tg):Ex:=λb A=>(m b A).bind λw c=>match t w b with|some a=>.ok (.nx a) c|none=>.bad
def ip (i j:Nat)(b M:Ev):Ex:=λa A=>(b a A).bind λx d=>(M a d).bind λy c=>.ok (.nx ((a.set i (some x)).set j (some y))) c
end
open Classical in
def JG:W->W->Hx->R W:=λx y A=>match x,y with
 |.ref n,.ref k=>match A[n]?,A[k]? with|some (.lst ws),some (.lst us)=>if ws.length+us.length<=zX then .ok .non (A.set n (.lst (ws++us))) else .bad|_,_=>.bad
 |_,_=>.bad
def DG:∀x y A,qY (JG x y A):=λx y A=>by
 unfold JG
 split
 ·split
  ·exact Z0 yf jh
  ·exact jh
 ·exact jh
section
variable {prog:Program}{A:Around}{s:Shared}
abbrev ZK (l:Bool):Obj:={ cls:=.type "set",dict:=none,data:=.set #[] 0 (.fresh 0 0 l) }
noncomputable abbrev QH (n:bR)(k:Nat):bR:=firstMet (λi=>n.getD i 0) k
def Fj {L:Bool}{t:Addr}(q:A.handled=none)(X:s.heap.IsTuple t oE.toArray)(j:IntsAre oE ns)(r:oE.length+1<scanBound)
  (h:∀(I:Heap)(d:Nat),I.SetOf (intKind prog w) s.heap.objs.size (λk=>(QH ns oE.length).any (·==k)) (QH ns oE.length).length->
   (∀b o,b<s.heap.objs.size->s.heap.get? b=some o->I.get? b=some o)->Q .none { s with heap:=I,toks:=d }):
  codeAny (model prog w) A (.call (.builtin "set.__init__") ⟨[.ref s.heap.objs.size,.ref t],[]⟩) (wants Q E) { s with heap:=s.heap.push (ZK L) }:=by
 have gS:(s.heap.push (ZK L)).get? s.heap.objs.size=some (ZK L):=aD _ rfl;refine codeAny_call_builtin F.called_set.init.plain F.entry_set_init (check_set_init_1 ⟨_,gS,rfl⟩ ?_);obtain⟨ob,K,J,n,H⟩:=X;obtain⟨C,B,g,f⟩:=ob;dsimp only at J H;cases J;cases H;have Y:=ag (ZK L) K;have n1:=F.sub_tuple_set;have N:=F.sub_tuple_frozenset;have n3:(Value.type "tuple" == Value.type "dict")=false:=by decide
 have T1:(s.heap.push (ZK L)).IsTuple t oE.toArray:=⟨_,Y,rfl,n,rfl⟩;unfold Builtin.«set.__init__» noKeywords Builtin.Frozenset.updateFrom;generalize p:pyIter=PI
 wp_walk
 subst p;refine wpAny_pyIter_tuple T1 (cj (wpAny_runValue ?_));have lt:t<s.heap.objs.size:=aM K;have sz:(s.heap.push (ZK L)).objs.size=s.heap.objs.size+1:=bp ..;have U:t≠(s.heap.push (ZK L)).objs.size:=by rw[sz];exact aO (bj lt)
 have W:=(Walks.tuple (prog:=prog) (w:=w) (A:=A.in1.in1) (by simp[q]) (s.heap.push (ZK L)).objs.size t U oE.toArray).toS
 have c:oE.toArray.size=oE.length:=aI;rw[c]at W;have off:s.heap.objs.size∉[(s.heap.push (ZK L)).objs.size,t]:=by
  rw[sz];intro D;rcases cw.mp D with z|D
  ·exact aO (bA _) z
  ·exact ne_of_gt lt (cz.mp D)
 refine codeAny_set_update_loopS W s.heap.objs.size off (λi=>ns.getD i 0) (λi v e=>IntsAre.int_at j i v (by simpa using e)) r oE.length 0 _ rfl (zero_le _) ⟨⟨_,aD _ rfl,rfl,rfl⟩,T1.push _⟩ ?_ ?_
 ·exact SetOf_congr ((setObjOf_fresh (knd:=intKind prog w) L).setOf (ag _ gS) (by unfold scanBound;lia)) (λ_=>rfl) rfl
 ·intro P M S
  obtain⟨I,Z,d',T,a⟩:=P;have y:Z=s.gens:=M.gens;have x:d'=s.drawn:=M.drawn;have u:a=s.os:=M.os;subst y x u;refine cn ?_;show wpAny _ _ (ret Value.none) _ _ _;refine cn (h I T S λb o l e=>M.heap b o (λD=>?_) (ag _ (ag _ e)));rcases cw.mp D with z|D
  ·exact aO l z
  ·exact aO (bj l) ((cz.mp D).trans sz)
def FO {t:Addr}(l:A.handled=none)(M:s.heap.IsTuple t oE.toArray)(j:IntsAre oE ns)(n:oE.length+1<scanBound)
  (h:∀(D:Heap)(a:Nat),D.SetOf (intKind prog w) s.heap.objs.size (λk=>(QH ns oE.length).any (·==k)) (QH ns oE.length).length->
   (∀b o,b<s.heap.objs.size->s.heap.get? b=some o->D.get? b=some o)->Q (.ref s.heap.objs.size) { s with heap:=D,toks:=a }):
  wpAny (model prog w) A (call (.type "set") [.ref t]) Q E s:=by
 obtain⟨c,q,g⟩:=F.called_set.mro;have N:=F.called_set.made;have a2:=F.called_set.sub;have C:=F.called_set.notType;have z:=F.called_set.canCreate;have y:=F.typeCall_set_1 (.ref t);refine wpAny_call (codeAny_of_tree ?_);show wpAny _ _ (callAny (.type "set") _) _ _ _;refine cn ⟨Code.quiet_builtin _ (by decide +kernel),codeAny_builtin F.entry_type_call ?_⟩
 rw[Around.under_plain (weight_type_call_type "set" [.ref t] []) rfl]
 repeat (any_goals (first|assumption|wp_step))
 refine codeAny_mono (code_set_new_1 (.ref t) (E:=E) (Q₁:=λu J=>∃L,u=.ref s.heap.objs.size/\J={ s with heap:=s.heap.push (ZK L) }) λL=>⟨L,rfl,rfl⟩) λr J d=>?_
 cases r with
 |error e=>exact d|ok p=>
  cases p with
  |ret u=>
   obtain⟨L,rfl,rfl⟩:=d;have T:Shared.TypeIs { s with heap:=s.heap.push (ZK L) } (.ref s.heap.objs.size) "set":=⟨_,aD _ rfl,rfl⟩
   have x:=F.called_set.init.lookup;have B:=F.called_set.init.bind (.ref s.heap.objs.size)
   repeat (any_goals (first|assumption|wp_step))
   refine codeAny_mono (Fj (E:=E) (Q:=λv I=>v=.none/\∃D a,I={ s with heap:=D,toks:=a }/\D.SetOf (intKind prog w) s.heap.objs.size (λk=>(QH ns oE.length).any (·==k)) (QH ns oE.length).length/\
    ∀b o,b<s.heap.objs.size->s.heap.get? b=some o->D.get? b=some o) (by simp[l]) M j n λD a S K=>⟨rfl,D,a,rfl,S,K⟩) λi I H=>?_
   cases i with
   |error e=>exact H|ok f=>
    cases f with
    |ret v=>
     obtain⟨rfl,D,a,rfl,S,K⟩:=H
     repeat (any_goals (first|assumption|wp_step))
     exact h _ _ S K
    |_=>exact H.elim
  |_=>exact d.elim
end
def intsAre_of:∀{N:bR}{i:bS},Vals (N.map V.int) i->IntsAre i N:=by
 intro N
 induction N with
 |nil=>intro i h;cases h;exact .nil|cons n N I=>
  intro i h;cases h with|cons r t=>obtain⟨T,rfl⟩:=r;exact .cons n T (I t)
section
variable {m:Ev}
abbrev Lw (n:bR):HO:=.set (λk=>(QH n n.length).any (·==k)) (QH n n.length).length
def iq (K:Frag):List V->Hp->VK->Prop:=λx H Q=>∃p n,x=[.ref p]/\qF K H p (n.map V.int)/\n.length<=100/\∀l,H l=none->Q (.ref l) (upd H l (Lw n))
def DF (d:X.calm=true):yB X (.type "set") (iq X.K):=by
 intro f s g H x U Q I r h;obtain⟨p,N,rfl,c,z,q⟩:=h;obtain⟨u,rfl,a⟩:=vals1 r;cases a;obtain⟨i,v,P,_⟩:=I.tuple c;have n:i.length=N.length:=by have:=v.length;rw[af]at this;lia
 refine FO (I.ok.hd d) P (intsAre_of v) (by unfold scanBound;lia) λj t S kp=>?_
 rw[n]at S;exact⟨.ref s.heap.objs.size,_,I.laid (t':=t) (o:=Lw N) (λb o e=>kp b o (aM e) e) (ao _) S,rfl,q _ (I.hok.fresh (ao _))⟩
def D1:yB X (.builtin "len") (λx H Q=>∃p S n,x=[.ref p]/\H p=some (.set S n)/\n<=100/\Q (.int n) H):=by
 intro P s j H x U Q I r h;obtain⟨p,S,n,rfl,b,z,q⟩:=h;obtain⟨u,rfl,a⟩:=vals1 r;cases a;obtain⟨o,e,E,t,c,i,g,_,_,_,f,d⟩:=(show qZ X.prog X.w H s.heap p (.set S n) from I.hok p _ b)
 subst d;exact call_len_set c i g f (by lia) ⟨.int e.size,H,I.tok _,⟨_,rfl⟩,q⟩
def Nm:W->Hx->R W:=λw A=>match w with
 |.tup a=>match intsOf a with|some n=>if n.length<=100 then .ok (.int (QH n n.length).length) A else .bad|none=>.bad
 |_=>.bad
def AM (m:Ev):Ev:=λa A=>(m a A).bind λw b=>Nm w b
end
def XZ (s:Stmt):Expr:=match s with|.If t _ _ _=>t|_=>Z4
def ir (e:Expr):Expr:=match e with|.UnaryOp _ a _=>a|_=>Z4
section
def iu:=ZQ X0 λi j=>.int (i * 2 ^ j.toNat)
end
def ID:fillsNumberSlot (.type "tuple") "mul"=pure false:=
 PySem.fillsNumberSlot_seq (id := "tuple.__mul__") (r:=some (.builtin "tuple.__rmul__")) F.slot_tuple_mul.lookup (by decide +kernel) F.slot_tuple_rmul.lookup (by decide +kernel)
def Fu:seqRepeat? (.type "tuple")=pure (some (.builtin "tuple.__mul__")):=by
 unfold seqRepeat?;rw[PySem.seqSlot_of (T := "tuple") (name := "__mul__") (id := "tuple.__mul__") F.slot_tuple_mul.lookup (by decide +kernel),PySem.seqSlot_of (T := "tuple") (name := "__rmul__") (id := "tuple.__rmul__") F.slot_tuple_rmul.lookup (by decide +kernel)]
 rfl
def Fg (a:Int)(t:Tok)(l:Addr)(o:cf)(i:Array Value)(n:Nat)(S:Array (Option Value)):
  Meets (Builtin.«int.__rmul__» ⟨[.int a t,.ref l],[]⟩) (λ_ R s=>s.heap.get? l=some ⟨.type "tuple",o,.seq i n,S⟩/\R (.ok (.ret Value.notImplemented)) s):=
 .of_wp λp w A R s h=>by
  obtain⟨H,g,d,T,c⟩:=s;obtain⟨b,h⟩:=h
  wp_walk
  exact⟨_,rfl,h⟩
def DB (k:Int)(t:Tok)(l:Addr)(o:cf)(I:Array Value)(n:Nat)(S:Array (Option Value))(B:2<=k)(f:k<1000)(i:0<I.size)(z:I.size<1000):
  Meets (Builtin.«tuple.__mul__» ⟨[.ref l,.int k t],[]⟩) (λ_ R s=>s.heap.get? l=some ⟨.type "tuple",o,.seq I n,S⟩/\R (.ok (.ret (.ref s.heap.objs.size))) { s with heap:=s.heap.push { cls:=.type "tuple",data:=.seq ((List.replicate k.toNat I).foldl (·++·) #[]) } }):=
 .of_wp λP w A R s h=>by
  obtain⟨p,g,d,T,v⟩:=s;obtain⟨c,h⟩:=h;have r:I.isEmpty=false:=by
   cases he:I.isEmpty with|false=>rfl|true=>rw[Array.isEmpty_iff_size_eq_zero]at he;lia
  have q:(k==1)=false:=by rw[beq_eq_false_iff_ne];lia
  have b:(decide (k < -2 ^ 63) || decide (k ≥ 2 ^ 63))=false:=by rw[Bool.or_eq_false_iff,decide_eq_false_iff_not,decide_eq_false_iff_not];lia
  have j:decide (k<=0)=false:=by rw[decide_eq_false_iff_not];lia
  have y:(I.size:Int) * k<=1000 * 1000:=Int.mul_le_mul (by lia) (by lia) (by lia) (by lia)
  have a:¬(I.size:Int) * k > (2 ^ 63-1)/8:=by lia
  have E:Builtin.Tuple.tupleTooMany ((I.size:Int) * k)=false:=by
   unfold Builtin.Tuple.tupleTooMany
   have:sizeLine=16777216:=sizeLine_eq
   rw[decide_eq_false_iff_not];lia
  wp_walk
  rw[b];rw[aj (by decide)]
  dsimp only
  wp_walk
  rw[aj a,E,aj (by decide)]
  have H:(List.foldl (λX x=>X++x) #[] (List.replicate k.toNat I)).size<=sizeLine:=by
   have u:=foldl_rep I.toList k.toNat [];rw[bN]at u;have e:I.toList.toArray=I:=by simp
   rw[e]at u;rw[u,aI,len_rep]
   have:sizeLine=16777216:=sizeLine_eq
   have:k.toNat * I.toList.length<=1000 * 1000:=bC (by lia) (by rw[length_toList];lia)
   lia
  refine cj (m:=Builtin.Tuple.tupleExact _) (wpAny_newObj_type ?_ H);exact cn ⟨_,rfl,h⟩
section
variable {K:Frag}{b:Expr}
def MZ (K:Frag):R2:=λx y H Q=>∃l k X,x=.ref l/\y=.int k/\qF K H l X/\2<=k/\k<1000/\0<X.length/\X.length<1000/\
 ∀p,H p=none->Q (.ref p) (upd H p (.tup (List.replicate k.toNat X).flatten))
def iw:qU X (binaryOp .Mult) (MZ X.K):=by
 intro P s Z H x y v u Q I e d h;obtain⟨l,k,A,rfl,rfl,f,N,M,z,j,q⟩:=h;cases e;obtain⟨t,rfl⟩:=d;obtain⟨i,r,p,_⟩:=I.tuple f;obtain⟨⟨Y,D,data,S⟩,a,c,n,C⟩:=id p;simp only at c C;subst c C;have w:List.foldl (λJ E=>J++E) #[] (List.replicate k.toNat i.toArray)=(List.replicate k.toNat i).flatten.toArray:=by
  have:=foldl_rep i k.toNat []
  rw[bN]at this;exact this
 have B:=r.length;refine wpAny_binaryOp_repeat_ref (T := "tuple") (U := "int") (by decide) ⟨_,a,rfl⟩ (λL=>typeIs_int L k t) ID F.fills_int_mul F.slot_int_rmul Fu F.slot_int_index.lookup
  (call_meets F.slot_int_rmul (typeIs_int s k t) F.entry_int_rmul (F.args_int_rmul_2 _ _) (Fg k t l D i.toArray n S)
   ⟨a,rfl,⟨_,a,rfl⟩,call_meets F.slot_tuple_mul ⟨_,a,rfl⟩ F.entry_tuple_mul (F.args_tuple_mul_2 _ _) (DB k t l D i.toArray n S N M (by rw[aI];lia) (by rw[aI];lia)) ⟨a,?_⟩⟩)
 rw[w];refine⟨.ref s.heap.objs.size,_,I.laid (t':=s.toks) (o:=.tup (List.replicate k.toNat A).flatten) (λb ob q=>ag _ q) (ao _) ?_,rfl,q _ (I.hok.fresh (ao _))⟩;refine⟨?_,_,r.rep k.toNat,Ja.new _ _⟩;rw[len_rep];have g:sizeLine=16777216:=sizeLine_eq
 have:k.toNat * A.length<=1000 * 1000:=bC (by lia) (by lia)
 lia
def JV:W->W->Hx->R W:=λx y A=>match x,y with|.tup X,.int k=>if decide (2<=k)&&(decide (k<1000)&&(decide (0<X.length)&&decide (X.length<1000))) then .ok (.tup (List.replicate k.toNat X).flatten) A else .bad|_,_=>.bad
def iy:∀x y A,qY (JV x y A):=λx y A=>by
 unfold JV
 split
 ·exact Z0 yf jh
 ·exact jh
def CU:yF K (MZ K) JV:=λe A H x y u v Q S b q p=>by
 cases u with
 |tup X=>cases v with
  |int j=>
   obtain⟨d,a,rfl,t,r⟩:=b;obtain rfl:=q;unfold JV at p;dsimp only at p
   by_cases h:(decide (2<=j)&&(decide (j<1000)&&(decide (0<X.length)&&decide (X.length<1000))))=true
   ·rw[ai h]at p
    simp only[ak,aq]at h;refine⟨d,j,a,rfl,rfl,t,h.1,h.2.1,by rw[<- r.length];exact h.2.2.1,by rw[<- r.length];exact h.2.2.2,λl c=>?_⟩
    obtain⟨c1,c2,C⟩:=JP S c (r.rep j.toNat);exact p _ _ _ c1 c2 C
   ·rw[aj h]at p;exact p.elim
  |_=>exact p.elim
 |_=>cases v<;>exact p.elim
end
section
open PySem.SeqAt
open PySem.AutoSeq1 (wpAny_loadPart')
open PySem.MeetsSeq PySem.MeetsSeq2 PySem.MeetsSeq3
end
open PySem
open PySem PySem.Spec PyProof.Rows
namespace F
end F
section
theorem P9:∀{N:bR}{i:bS},IntsAre i N->Vals (N.map V.int) i
 |_,_,.nil=>.nil|_,_,.cons n t h=>.cons ⟨t,rfl⟩ (P9 h)
end
section
variable {K:Frag}
theorem zF.app:∀{a u:List W}{x y:List V},zF K φ H a x->zF K φ H u y->zF K φ H (a++u) (x++y)
 |[],_,_,_,h,h2=>by cases h;exact h2|w::a,_,_,_,⟨v,r,e,h,t⟩,h2=>by subst e;exact⟨v,_,rfl,h,zF.app t h2⟩
variable {m:Ev}{lo hi:Option Expr}
abbrev Po:=En->Hx->R (Option Int)
def yL:Po:=λ_ A=>.ok none A
def j9 (m:Ev):Po:=λa A=>(m a A).bind λw b=>match w with|.int i=>.ok (some i) b|_=>.bad
def Y8 (w:List W)(l h:Option Int):List W:=(w.drop (HT.yU w.length 0 l)).take (HT.yU w.length w.length h-HT.yU w.length 0 l)
inductive MP (K:Frag)(xr:XR)(p:Po)(σ:St)(H:Hp)(Q:Option Int->Hp->Prop):Prop
 |mk (φ:bU) (A:Hx) (ρ:En) (S:zL K φ A H) (re:RE K φ H ρ σ) (h:(p ρ A).post (λo A1=>∀oJ H1,Le K φ H oJ H1->zL K oJ A1 H1->Q o H1) (EB K φ H xr))
def tP (K:Frag)(x:XR)(p:Po):TO:=λa H Q=>MP K x p a H Q
def SP (X:Cx)(x:XR)(e:Option Expr)(p:Po):Prop:=PO X e (tP X.K x p)
def PO.imp {e:Option Expr}{t T:TO}(h:PO X e t)(i:∀σ H Q,T σ H Q->t σ H Q):PO X e T:=λp s σ H Q I w=>h p s σ H Q I (i σ H Q w)
def N5 (b:SE X xr e m):SP X xr (some e) (j9 m):=PO.imp (d2 b) λj H Q ⟨g,A,n,S,r,h⟩=>by
 refine tM.go S r (zY.mp h) λw o a f v d l c q=>?_;cases w with|int i=>obtain rfl:=q;exact⟨i,rfl,d a f l c⟩|_=>exact d.elim
end
def D5 (x:Array Value):((List.range x.size).filterMap λ(k:Nat)=>x[(((x.size:Int)-1)+(k:Int) * (-1)).toNat]?).toArray=x.toList.reverse.toArray:=by
 congr 1
 have e:∀k,k<x.size->x[(((x.size:Int)-1)+(k:Int) * (-1)).toNat]? =some (x.toList.reverse.getD k .none):=λk h=>by
  have b:(((x.size:Int)-1)+(k:Int) * (-1)).toNat=x.size-1-k:=by lia
  rw[b,aa,List.getElem?_reverse (by simpa using h),Array.getElem?_toList,length_toList,Array.getElem?_eq_getElem (by lia)]
  rfl
 have E:((List.range x.size).filterMap λ(k:Nat)=>x[(((x.size:Int)-1)+(k:Int) * (-1)).toNat]?)=(List.range x.size).map λk=>x.toList.reverse.getD k .none:=by
  have a:∀l:bW,(∀k∈l,k<x.size)->(l.filterMap λ(k:Nat)=>x[(((x.size:Int)-1)+(k:Int) * (-1)).toNat]?)=l.map λk=>x.toList.reverse.getD k .none:=by
   intro l
   induction l with
   |nil=>intro _;rfl|cons k l I=>
    intro h;rw[bb,e k (h k (aG ..)),aS,I λj H=>h j (aA _ H)]
  exact a _ λk h=>cm.mp h
 rw[E]
 apply a9
 ·simp
 ·intro i b c
  rw[getElem_map,getElem_range,aa,ae c]
  rfl
section
variable {K:Frag}
def FN (h:Vals xs us):Vals xs.reverse us.reverse:=by
 induction h with|nil=>exact .nil|cons r t i=>rw[bK,bK];exact i.append (.cons r .nil)
theorem zF.rev:∀{a:List W}{b:List V},zF K φ H a b->zF K φ H a.reverse b.reverse
 |[],_,h=>by cases h;rfl|w::a,_,⟨v,r,e,h,t⟩=>by subst e;rw[bK,bK];exact zF.app (zF.rev t) ⟨v,[],rfl,h,rfl⟩
end
def XF (_ j:Int):Bool:=decide (0<j)&&decide (j<1152921504606846976)
def MO (i j:Int):Prop:=0<j/\j<1152921504606846976
def By (i j:Int)(h:XF i j=true):MO i j:=by unfold XF at h;rw[ak]at h;exact⟨of_decide_eq_true h.1,of_decide_eq_true h.2⟩
def Cb:qU X (binaryOp .FloorDiv) (rI MO λi j=>.int (i/j)):=Kl λi j _ _ _ _ _ h q=>by
 have b:(0:Int)<j:=h.1;have a:j<1152921504606846976:=h.2;refine floordiv_int (by lia) (by rw[Int.fdiv_eq_ediv_of_nonneg i (by lia)];exact q) (.inl (PyProof.noPylong_of_log2 ?_))
 have H:j.natAbs≠0:=by lia
 have:j.natAbs.log2<60:=(Nat.log2_lt H).mpr (by lia)
 lia
def YZ:=ZQ XF λi j=>.int (i/j)
def XX (e:Expr):Expr:=match e with|.Compare l _ _ _=>l|_=>Z4
end Mi
namespace PySem.SeqAt
open PySem
end PySem.SeqAt
namespace Mi
open PySem PySem.Spec PyProof.Rows L2
section
variable {m:Ev}
def yz (m:Ev)(p P:Po):Ev:=λb A=>(m b A).bind λw d=>(p b d).bind λl c=>(P b c).bind λu a=>match w with
 |.ref n=>match a[n]? with|some (.lst ws)=>.ok (.ref a.length) (a++[.lst (Y8 ws l u)])|_=>.bad
 |_=>.bad
end
open PySem.W (KasT kas_rev kas_asc kas_desc kas_tail3 kas_descPart kas_count kas_place kas_bin kas_sort)
def TW (n:Nat)(c:Nat->Nat->Bool):KasT α->(α->Prop)->Prop
 |.ret a,Q=>Q a|.ask i j k,Q=>i<n/\j<n/\TW n c (k (c i j)) Q
theorem TW.bind {b:Type}{f:α->KasT b}{Q:b->Prop}:∀(t:KasT α),TW n c t (λa=>TW n c (f a) Q)->TW n c (t.bind f) Q
 |.ret _,h=>h|.ask i j k,h=>⟨h.1,h.2.1,TW.bind (k (c i j)) h.2.2⟩
theorem TW.wp {cmp:Nat->Nat->(Bool->Shared->Prop)->Shared->Prop}{G:α->Shared->Prop}{s:Shared}(H:∀i j C,i<n->j<n->C (c i j) s->cmp i j C s):
  ∀(t:KasT α),TW n c t (λa=>G a s)->t.kasWp cmp G s
 |.ret _,h=>h|.ask i j k,h=>H i j _ h.1 h.2.1 (TW.wp H (k (c i j)) h.2.2)
open PySem.W (KasT kas_sort kas_ask kat_run kat_snds kat_kind kat_lt kat_cons kat_nil kat_yes kat_no kat_one KatLex KatGo KatTups)
noncomputable def JZ  [DecidableEq α] (lt:α->α->Bool):List α->List α->Bool
 |[],[]=>false|[],_::_=>true|_::_,[]=>false|a::x,b::y=>if a=b then JZ lt x y else lt a b
section
variable (O:KeyOrd)[DecidableEq O.α]
theorem OS:∀x:List O.α,JZ O.blt x x=false
 |[]=>rfl|a::x=>by unfold JZ;rw[ai rfl];exact OS x
end
abbrev IO:KeyOrd:=⟨Int,λa b=>decide (a<b),λa=>by simp,λa b c d H=>by simp only[aq]at*;lia,λa b c h=>by simp only[aq]at*;lia,λa b d H=>by simp only[decide_eq_false_iff_not]at*;lia⟩
abbrev yv:List Int->List Int->Bool:=JZ IO.blt
def Ci (x:bR):yv x x=false:=OS IO x
def iz {d:α}(l:List α):((List.range l.length).map λi=>l.getD i d)=l:=by
 refine a9 (by simp) λi a b=>?_
 simp at a;simp[a]
def iA (v:bS):(v.toArray.zip v.toArray).map (·.2)=v.toArray:=by
 apply Array.toList_inj.mp
 rw[Array.toList_map];simp only[Array.toList_zip,List.toList_toArray];exact List.map_snd_zip (ao _)
section
variable {prog:Program}{A:Around}{s:Shared}
def iB {b:Bool}{x y:Int}{t u:Tok}{Q:Bool->Shared->Prop}(h:Q (decide (x<y)) s):wpAny (model prog w) A (oneLt' b (.int x t) (.int y u)) Q E s:=by
 cases b with|true=>exact oneLt_int h|false=>exact kat_one _ _ (wpAny_lt_int h)
theorem NX {Q:Bool->Shared->Prop}{b:Bool}:∀{x y:bS}{f bs:bR}{i:Nat},IntsAre x f->IntsAre y bs->Q (yv f bs) s->KatLex prog w A b (decide (x.length<y.length)) Q (x.zip y) i s
 |_,_,_,_,_,.nil,.nil,h=>h|_,_,_,_,_,.nil,.cons _ _ _,h=>by refine kat_nil (s:=s) ?_;simpa[JZ] using h
 |_,_,_,_,_,.cons _ _ _,.nil,h=>by refine kat_nil (s:=s) ?_;simpa[JZ] using h
 |_,_,_,_,i,.cons (vs:=x) a t d,.cons (vs:=y) c u r,h=>by
  refine kat_cons (wpAny_eqBool_int ?_);unfold yv JZ at h
  by_cases e:a=c
  ·subst e
   rw[ai rfl]at h;rw[bB];refine kat_yes ?_;show KatLex prog w A b (decide (x.length+1<y.length+1)) Q (x.zip y) (i+1) s;rw[show decide (x.length+1<y.length+1)=decide (x.length<y.length) by simp]
   exact NX d r h
  ·rw[aj e]at h
   rw[show(a==c)=false by simp[e]]
   exact kat_no (iB h)
def J8 (h:Heap)(v:Value)(k:bR):Prop:=∃(a:Addr) (o:Obj) (oE:bS) (n:Nat),v=.ref a/\h.get? a=some o/\o.cls=.type "tuple" /\ o.data=.seq oE.toArray n/\IntsAre oE k
def J8.keep {v:Value}{k:bR}(t:J8 h v k)(kp:∀b o,h.get? b=some o->h'.get? b=some o):J8 h' v k:=by obtain⟨a,o,i,n,e,f,d,c,H⟩:=t;exact⟨a,o,i,n,e,kp _ _ f,d,c,H⟩
def iC {x y:Value}{k l:bR}{b:Bool}{Q:Bool->Shared->Prop}(f:J8 s.heap x k)(e:J8 s.heap y l)(h:Q (yv k l) s):wpAny (model prog w) A (keyLt' (tuples' b) x y) Q E s:=by
 obtain⟨a,o,I,n,rfl,r,_,j,g⟩:=f;obtain⟨p,t,q,N,rfl,d,_,c,H⟩:=e;refine kat_lt r j d c ?_
 have:=NX (prog:=prog) (w:=w) (A:=A) (b:=b) (i:=0) g H h
 simpa using this
inductive gi (h:Heap):List Value->List (bR)->Prop
 |nil:gi h [] []
 |cons {v:Value} {k:bR} {vs:bS} {ks:bQ} (t:J8 h v k) (ne:k≠[]) (r:gi h vs ks):gi h (v::vs) (k::ks)
theorem gi.length:∀{v:bS}{K:bQ},gi h v K->v.length=K.length
 |_,_,.nil=>rfl|_,_,.cons _ _ r=>by simp[r.length]
theorem gi.keep (kp:∀b o,h.get? b=some o->h'.get? b=some o):∀{v:bS}{K:bQ},gi h v K->gi h' v K
 |_,_,.nil=>.nil|_,_,.cons t ne r=>.cons (t.keep kp) ne (r.keep kp)
theorem gi.at:∀{v:bS}{K:bQ}(i:Nat),gi h v K->i<K.length->J8 h (v.getD i Value.none) (K.getD i [])
 |_,_,_,.nil,H=>by simp at H|_,_,0,.cons t _ _,_=>t|_,_,i+1,.cons _ _ r,H=>r.at i (by simpa using H)
theorem gi.firsts:∀{d:bS}{K:bQ},gi h d K->∃fs:bS,KatTups h d fs/\fs.length=d.length/\∀v∈fs,∃i t,v=Value.int i t
 |_,_,.nil=>⟨[],trivial,rfl,λv H=>by cases H⟩|_,_,.cons (k:=k) ⟨a,o,oE,n,e,h1,h2,c,b⟩ ne r=>by
  obtain⟨fs,t,l,f⟩:=r.firsts;cases b with
  |nil=>exact absurd rfl ne|cons i T q=>
   refine⟨Value.int i T::fs,⟨⟨a,o,_,n,e,h1,h2,c,rfl⟩,t⟩,by simp[l],λv H=>?_⟩
   rcases cw.mp H with rfl|H
   ·exact⟨i,T,rfl⟩
   ·exact f v H
end
def Ri (k:bR):W:=.tup (k.map W.int)
def QF:List W->Option (bQ)
 |[]=>some []|.tup x::ws=>match intsOf x with|some k=>if k=[] then none else(QF ws).map (k::·)|none=>none
 |_::_=>none
theorem Oo:∀{b:List W}{K:bQ},QF b=some K->b=K.map Ri/\∀k∈K,k≠[]
 |[],_,h=>by cases h;exact⟨rfl,λk a=>by cases a⟩|w::b,K,h=>by
  cases w with
  |tup X=>
   unfold QF at h;cases E:intsOf X with
   |none=>rw[E]at h;cases h|some k=>
    rw[E]at h;dsimp only at h
    by_cases c:k=[]
    ·rw[ai c]at h;cases h
    ·rw[aj c]at h
     cases e:QF b with
     |none=>rw[e]at h;cases h|some l=>
      rw[e]at h;cases h;obtain⟨A,a2⟩:=Oo e;refine⟨by rw[aS,<- A,Gx E];rfl,λx H=>?_⟩
      rcases cw.mp H with rfl|H
      ·exact c
      ·exact a2 x H
  |_=>cases h
section
theorem O2 {l:List (Option V)}{s:Shared}(I:Inv X o6 l H s):∀{j:bQ}{y:List V}{i:bS},zF X.K φ H (j.map Ri) y->(∀k∈j,k≠[])->Vals y i->gi s.heap i j
 |[],_,_,e,_,b=>by have E:_=([]:List V):=e;subst E;rw[Vals.zero b];exact .nil
 |k::j,_,_,⟨v,r,e,h,t⟩,ne,b=>by
  subst e;cases b with
  |cons c b=>
   obtain⟨a,x,e,hT,d⟩:=h;subst e;have w:=zF.ints.mp d;subst w;obtain⟨i,g,⟨o,u,q,n,p⟩,_⟩:=I.tuple hT;cases c;exact .cons ⟨a,o,i,n,rfl,u,q,p,intsAre_of g⟩ (ne k (aG ..)) (O2 I t (λk f=>ne k (aA _ f)) b)
variable {K:Frag}{a:Expr}
def Aa (K:Frag):V->List V->Hp->VK->Prop:=λx v H Q=>∃a X y,x=.ref a/\v=[y]/\q9 K H a X/\wN y=true/\X.all wN=true/\Q (.int (X.countP λz=>g7 z y)) H
def EU:Ki X "list.count" (Aa X.K):=by
 intro p s A H x E v U Q I b d h;obtain⟨a,B,y,rfl,rfl,w,l,f,q⟩:=h;cases b;obtain⟨u,rfl,e⟩:=d.one;obtain⟨i,r,⟨⟨C,D,data,S⟩,n,o,c,j,t⟩,_⟩:=I.list w;simp only at c t;subst c t;refine call_meets F.slot_list_count ⟨_,o,rfl⟩ F.entry_list_count (F.args_list_count_2 _ _) (SeqAt.list_countAt a i.toArray n D S u (Zv y)) ⟨o,λz g=>KN e l r f z (by simpa using g),?_⟩
 refine⟨.int _,H,I.tok _,⟨_,rfl⟩,?_⟩;rw[<- Um r f]at q;simpa using q
def YJ:W->W->Hx->R W:=λx y A=>match x with
 |.ref n=>match A[n]? with|some (.lst ws)=>if yA y&&ws.all yA then .ok (.int (Jg y ws 0)) A else .bad|_=>.bad
 |_=>.bad
def DH:∀x y A,qY (YJ x y A):=λx y A=>by
 unfold YJ
 split
 ·split
  ·exact Z0 yf jh
  ·exact jh
 ·exact jh
end
open PySem.W (kas_kind)
section
open PySem.SeqAt
open PySem.AutoSeq1 (wpAny_loadPart')
open PySem.MeetsSeq PySem.MeetsSeq2 PySem.MeetsSeq3
end
open AutoSeq1 (wpAny_loadPart')
section
def iD:=Zu λi j=>.int (Builtin.bitAnd i j)
def iE:=ZQ (λ_ j=>decide (0<=j)) λi j=>.int (i/2 ^ j.toNat)
end
def Qs (X:Cx):Prop:=∀p a H s,Inv X p a H s->∀(x:Str)(c:Addr),X.env.cells.lookup x=some c->c∉qJ X.stack
def K9 (h:∀x,X.fn x=true):Qs X:=λp a H s I x c e=>hZ I h e
def DN {H:Hp}{d:Shared}(S:gH X sc)(C:Qs X)(I:Inv X o6 σ H d):Qs (jI X N sc d H fp yh):=λp a b g i x c e f=>by
 rcases YA I S (PySem.mem_of_lookup e) with ⟨_,z,_⟩|⟨_,z,_⟩
 ·exact C o6 σ H d I x c z f
 ·rcases cw.mp (I.stkSub c f) with q|q
  ·exact absurd (I.lt) (Nat.not_lt.mpr (by rw[<- q];exact bL z))
  ·obtain⟨_,o,h,_⟩:=I.ok.funs.mem q
   exact absurd (aM h) (Nat.not_lt.mpr (a4 I.sz (bL z)))
def wZ (n:Nat)(q:Str)(P:Addr)(i:bW)(g:Fn):Ev:=λa A=>match A[n]? with
 |some (.tab Q P')=>if Q=q/\P'=P then(match QM i a with|some w=>g w A|none=>.bad) else .bad
 |_=>.bad
def Lc (e:Expr):Expr:=match e with|.ListComp b _ _ _=>b|_=>Z4
section
variable {K:Frag}{st:Stmt}{c:Addr}{fd:FuncData}{ps:bX}{k:Nat}{m:Ex}
def Lu (F:wm K x x st f fd)(n:nsIn K mainGlobals x=some (some (.ref f)))(t:tabIn K x=some (c,Pt))(S:wy N ps (qj st))
  (h:∀(A:Around)(o:b8)(s:Shared)(H:Hp)(E:XK),jd k (A.deeper (envOfC x (qj st) s.heap.objs.size f (.ref c)))->Yb (kg kO P w K mg base N x (qj st) f (.ref c) A o s H E).nox jX (j6 st) m):
  yt P w K mg base kO (k+1) f fd ps (Zq K ps.length (qz N.length m)):=
 (h7 (q := "") (ls:=[]) (m:=λ_=>m) F n t S h).imp λv H Q E ⟨l,a,A,b,S,r,q⟩=>⟨l,a,A,b,S,r,λ_=>q⟩
end
def DU {K:Frag}{mb:b0}{k:Nat}{fa p:Addr}{fd:FuncData}{sp:Sp}{S:Shared}{vs:bS}
  (KX:K.In S.heap)(A:S.heap.Ns mainGlobals mg)(c:S.heap.Ns builtinsNs mb)(hbb:∀x:Str,x ≠ "__name__" -> mb x=bootBuiltins x)(C:S.heap.NoLimit)(hg:S.gens=#[])
  (l:S.heap.get? a=some { cls:=.type "list",data:=.seq vs.toArray })(hi:IntsAre vs ns)(hl:ns.length<=sizeLine)(hr:jd k callerA)
  (t:S.heap.get? Pt=some (tabObj #[]))(hKP:K.lookup Pt=none)(hct:isCodeTable S.heap Pt)(i:S.heap.get? p=some (tabObj #[]))(hKU:K.lookup p=none)(Y:isCodeTable S.heap p)(hbm:BMain mg S.heap)
  (F:∀base:Heap,K.In base->base.Ns mainGlobals mg->BMain mg base->yt P w K mg base kO k fa fd [x] sp)(y:∀(s:Shared)(u:Value),BindsTo s fd ⟨[u],[]⟩ [(x,u)])
  (T:∀H:Hp,H Pt=some (.tbl #[])->H p=some (.tbl #[])->Kk K H a (ns.map V.int)->sp [.ref a] H (λv _=>v=.bl true) λ_ _ _=>False):
  codeAny (model P w) callerA (.call (.ref fa) ⟨[.ref a],[]⟩) (λr s'=>r=.ok (.ret (.bool true))/\OldK S.heap s'.heap/\s'.os=S.os/\AllBare s'.gens) S:=by
 have rv:=P9 hi;have L:=hi.length;have Q:a≠Pt:=λz=>by rw[z,t]at l;cases l
 have U:a≠p:=λz=>by rw[z,i]at l;cases l
 have core:∀H:Hp,H Pt=some (.tbl #[])->H p=some (.tbl #[])->Kk K H a (ns.map V.int)->jj P w H S.heap->(∀b,H b≠none->b=a∨b=Pt∨b=p)->(∀u,H a=some u->K.lookup a=none/\∃o xs,u=.frz o (.lst xs))->
   codeAny (model P w) callerA (.call (.ref fa) ⟨[.ref a],[]⟩) (λr s'=>r=.ok (.ret (.bool true))/\OldK S.heap s'.heap/\s'.os=S.os/\AllBare s'.gens) S:=by
  intro H hO hU hS hok I hK;have base_of:∀{b:Addr}{o:Obj},S.heap.get? b=some o->H b=none->(Z9 S.heap H).get? b=some o:=λe n=>CQ e n;have M:∀{b:Addr}{o:Obj}{es:Array DictEntry}{E:Nat},S.heap.get? b=some o->o.data=.dict es E->H b=none:=λ {b o es E} e d=>by
   cases q:H b with
   |none=>rfl|some u=>
    rcases I b (by rw[q];simp) with z|z|z
    ·subst z
     rw[l]at e;cases e;have d':Data.seq vs.toArray _=Data.dict es E:=d;cases d'
    ·subst z
     rw[t]at e;cases e;cases d
    ·subst z
     rw[i]at e;cases e;cases d
  have N:∀{b:Addr}{m:b0},S.heap.Ns b m->(Z9 S.heap H).Ns b m:=λ {b m} ⟨o,es,E,e,d,r⟩=>⟨o,es,E,base_of e (M e d),d,r⟩;have D:K.In (Z9 S.heap H):=λb o e=>base_of (KX b o e) (by
   cases q:H b with
   |none=>rfl|some u=>
    rcases I b (by rw[q];simp) with z|z|z
    ·subst z
     rw[(hK u q).1]at e;cases e
    ·subst z
     rw[hKP]at e;cases e
    ·subst z
     rw[hKU]at e;cases e)
  have hBb:BMain mg (Z9 S.heap H):=by
   obtain⟨bm,o,b1,b2,b3,B,J,b6,b7⟩:=hbm;refine⟨bm,o,b1,b2,b3,base_of B ?_,J,b6,b7⟩;cases q:H bm with
   |none=>rfl|some u=>
    rcases I bm (by rw[q];simp) with z|z|z
    ·subst z
     rw[l]at B;cases B;exact absurd J (by intro q;injection q with q;exact absurd q (by decide))
    ·subst z
     rw[t]at B;cases B;cases J
    ·subst z
     rw[i]at B;cases B;cases J
  have hM:Mod K mg (Z9 S.heap H):=⟨D,N A,⟨mb,N c,hbb⟩,let ⟨mc,h1,h2⟩:=C;⟨mc,N h1,h2⟩⟩
  have e0:J4 P w K mg (Z9 S.heap H) callerA [] S H:=⟨rfl,hM,λb o e=>cI e,Nat.le_of_eq (EX _ _),trivial,λb c=>absurd (show b∈([]:bU) from c) (by simp),hok,.of_eq hg⟩
  refine codeAny_mono ((F _ D (N A) hBb).run callerA [] S H ⟨[.ref a],[]⟩ [.ref a] [.ref a] _ _ hr e0 (y S (.ref a)) (.cons rfl .nil) (T H hO hU hS)) λr s' h=>?_;cases r with
  |error e=>exact False.elim h|ok fl=>
   cases fl with
   |next=>exact False.elim h|brk=>exact False.elim h|cont=>exact False.elim h|ret u=>
    obtain⟨v,H',os,bare,un,g,r',q⟩:=h;have q':v=.bl true:=q;subst q';obtain rfl:u=Value.bool true:=r';refine⟨rfl,⟨λb o e=>?_,λb o e=>un.there b o e (by simp)⟩,os,bare⟩
    cases q:H b with
    |none=>exact .inl (un.keep b o e q (by intro z;exact absurd (show b∈([]:bU) from z) (by simp)) (by simp))|some u=>
     rcases I b (by rw[q];simp) with z|z|z
     ·subst z
      obtain⟨ob,xs,rfl⟩:=(hK u q).2;have j:=un.frzs _ ob _ q;obtain⟨e1,_⟩:=hok _ _ q;obtain⟨e2,_⟩:=g _ _ j;rw[e]at e1;cases e1;exact .inl e2
     ·subst z
      rw[t]at e;cases e;obtain⟨more,j⟩:=un.tbls _ _ hO;exact .inr (.inl ⟨hct,rfl,#[],more,rfl,g _ _ j⟩)
     ·subst z
      rw[i]at e;cases e;obtain⟨more,j⟩:=un.tbls _ _ hU;exact .inr (.inl ⟨Y,rfl,#[],more,rfl,g _ _ j⟩)
 have two:∀b,(b=Pt∨b=p)->S.heap.get? b=some (tabObj #[]):=λb h=>by
  rcases h with h|h<;>rw[h]
  ·exact t
  ·exact i
 have na:¬(a=Pt∨a=p):=λh=>h.elim Q U;cases X:K.lookup a with
 |some o=>
  have e:=KX a o X;rw[l]at e;cases e;refine core (λb=>if b=Pt∨b=p then some (.tbl #[]) else none) (ai (.inl rfl)) (ai (.inr rfl)) (.inr ⟨_,vs.toArray,_,X,rfl,rfl,rfl,by rw[aI,L];exact hl,by simpa using rv⟩) (λb u z=>?_) (λb z=>?_) λu z=>?_
  ·by_cases c:b=Pt∨b=p
   ·have Z:=(ai c).symm.trans z
    cases Z;exact two b c
   ·have Z:=(aj c).symm.trans z
    cases Z
  ·by_cases c:b=Pt∨b=p
   ·exact .inr c
   ·exact absurd (aj c) z
  ·have Z:=(aj na).symm.trans z
   cases Z
 |none=>
  refine core (λb=>if b=Pt∨b=p then some (.tbl #[]) else if b=a then some (.frz { cls:=.type "list",data:=.seq vs.toArray } (.lst (ns.map V.int))) else none) (ai (.inl rfl)) (ai (.inr rfl))
   (.inl ⟨{ cls:=.type "list",data:=.seq vs.toArray },(aj na).trans (ai rfl)⟩) (λb u z=>?_) (λb z=>?_) λu z=>?_
  ·by_cases c:b=Pt∨b=p
   ·have Z:=(ai c).symm.trans z
    cases Z;exact two b c
   ·have Z:=(aj c).symm.trans z
    by_cases f:b=a
    ·have j:=(ai f).symm.trans Z
     cases j;subst f;exact⟨l,by rw[af];exact hl,vs,_,rv,l⟩
    ·have j:=(aj f).symm.trans Z
     cases j
  ·by_cases c:b=Pt∨b=p
   ·exact .inr c
   ·by_cases f:b=a
    ·exact .inl f
    ·exact absurd ((aj c).trans (aj f)) z
  ·have Z:=((aj na).trans (ai rfl)).symm.trans z
   cases Z;exact⟨X,_,_,rfl⟩
def Mb (q r:Str)(fs:Addr->Addr->Fn):Prop:=∀n:bR,n.length<=63->∀p P,∃A,fs p P [.ref 0] [.ro (n.map W.int),.tab q p,.tab r P]=.ok (.bl true) A
def EE {K:Frag}{P:Addr}{q r:Str}(N:Pt≠P)(f:H Pt=some (.tbl #[]))(U:H P=some (.tbl #[]))(S:Kk K H a (ns.map V.int)):zL K [a,Pt,P] [.ro (ns.map W.int),.tab q Pt,.tab r P] H:=by
 refine⟨rfl,λi j b o u l g d c t M=>?_,λn o h=>?_⟩
 ·match i,j,l,g,d,c with|0,_,_,_,d,_=>simp at d;subst d;cases t|_,0,_,_,_,c=>simp at c;subst c;cases M|1,1,_,_,_,_=>rfl|2,2,_,_,_,_=>rfl|1,2,l,g,_,_=>simp at l g;exact absurd (l.trans g.symm) N|2,1,l,g,_,_=>simp at l g;exact absurd (g.trans l.symm) N|i+3,_,_,_,d,_=>simp at d|_,j+3,_,_,_,c=>simp at c
 ·match n,h with
  |0,h=>simp at h;subst h;exact⟨a,rfl,ns.map V.int,S,zF.ints.mpr rfl⟩|1,h=>simp at h;subst h;exact⟨Pt,rfl,rfl,#[],f,trivial,λp C e=>nomatch e⟩
  |2,h=>simp at h;subst h;exact⟨P,rfl,rfl,#[],U,trivial,λp C e=>nomatch e⟩
  |n+3,h=>simp at h
def zcV {y:Str}{l:PySem.W.OpenLaw}{k:Nat}{q:Program}{loose:bX}{M:World->Heap->Prop}{d:DefRec}{Kp:Params->Frag}{X Q:Str}{fs:Addr->Addr->Fn}{P:Addr}(ok:Mb X Q fs)
  (hn:l.most=some 63)(B:d.params.defaults=[])(hr:jd k callerA)(ne:Pt≠P)(hY:∀(w:World)(h:Heap),M w h->(Kp w.params).In h)(hT:∀(w:World)(h:Heap),M w h->h.get? Pt=some (tabObj #[])/\h.get? P=some (tabObj #[]))
  (ht:∀p,Xv (Kp p) d.name Pt=true)(I:∀p,(Kp p).lookup Pt=none)(Z:∀p,Xv (Kp p) y P=true)(U:∀p,(Kp p).lookup P=none)
  (F:∀(w:World)(mg:b0)(fa:Addr)(h:Heap),(Kp w.params).In h->h.Ns mainGlobals mg->mg d.name=some (.ref fa)->(∃c,tabIn (Kp w.params) d.name=some (c,Pt)/\codeHdIn (Kp w.params) c Pt=true)->(∃c,tabIn (Kp w.params) y=some (c,P)/\codeHdIn (Kp w.params) c P=true)->
   ∃fd:FuncData,(∀(s:Shared)(u:Value),BindsTo s fd ⟨[u],[]⟩ [(x,u)])/\∀base:Heap,(Kp w.params).In base->base.Ns mainGlobals mg->BMain mg base->yt l.prog w (Kp w.params) mg base kO k fa fd [x] (Zq (Kp w.params) 1 (fs Pt P))):
  PySem.W.WalkO q loose XP M l.row.toRowW d [] (λf vs=>PySem.call f vs):=by
 refine Att.F8 (n:=63) hn B λw N S mg mb fa o pm cd doc a vs ns G Y ho hd hcd' t j hints hlen hg=>?_;have K:=hY w _ Y;obtain⟨fd,hb,hF⟩:=F w mg fa _ K G.T.g t (Gz (ht w.params)) (Gz (Z w.params));obtain⟨c,_,C⟩:=Gz (ht w.params);obtain⟨c2,_,i⟩:=Gz (Z w.params);obtain⟨hP,hU⟩:=hT w _ Y;have hc:isCodeTable S.heap Pt:=((codeHd_of_K K C).tab hP).isCodeTable;have D:isCodeTable S.heap P:=((codeHd_of_K K i).tab hU).isCodeTable;have E:BMain mg S.heap:=by obtain⟨bm,ob,b1,b2,L,b4,b5,J⟩:=G.T.bmain;refine⟨bm,ob,b1,b2,λz=>?_,L,b4,b5,J⟩;obtain⟨o,es,ep,e,hd,_⟩:=G.T.g;rw[z,e]at L;cases L;rw[hd]at J;cases J
 refine DU K G.T.g G.T.b G.T.builtins G.T.nolimit hg j hints (a4 hlen (by decide)) hr hP (I w.params) hc hU (U w.params) D E hF hb λH h1 h2 h3=>?_
 refine⟨rfl,[a,Pt,P],[.ro (ns.map W.int),.tab X Pt,.tab Q P],[.ref 0],EE ne h1 h2 h3,.one ⟨a,rfl,rfl⟩,?_⟩;obtain⟨A,e⟩:=ok ns hlen Pt P;rw[e];exactλoF H' v _ _ r=>r
def Cy (x:Array Value):slicePick x none none (some (-1))=x.toList.reverse.toArray:=by
 unfold slicePick;have E:sliceBounds none none (some (-1)) x.size=((x.size:Int)-1,-1,-1):=rfl;rw[E];have e:sliceRange ((x.size:Int)-1) (-1) (-1)=(List.range x.size).map λ(k:Nat)=>(((x.size:Int)-1)+(k:Int) * (-1)).toNat:=by
  unfold sliceRange;dsimp only;rw[aj (by decide)]
  by_cases h:x.size=0
  ·rw[h,aj (by decide)];rfl
  ·rw[ai (by lia)]
   have:(((x.size:Int)-1 - -1 - -1-1)/(- -1)).toNat=x.size:=by rw[Int.neg_neg,Int.ediv_one];lia
   rw[this];refine bo λk _=>?_;rw[Int.mul_comm]
 rw[e,List.filterMap_map];exact D5 x
section
variable {st:Expr}{m ms:Ev}{te:TE}{ts:TO}{p2:Pos}{K:Frag}
def iF (K:Frag):V->Hp->VK->Prop:=λx H Q=>∃a X,x=.ref a/\q9 K H a X/\∀p,H p=none->Q (.ref p) (upd H p (.lst X.reverse))
def B6 (T:PE X e te)(n:PO X (some st) ts):PE X (.Subscript e (.Slice none none (some st) p2) o7) (λσ H Q=>te σ H λx D=>ts σ D λo C=>o=some (-1)/\iF X.K x C Q):=by
 intro P s σ H Q I h;refine Subscript_ (zU (T P s σ H _ I h) λv M ⟨x,D,y,f,j⟩=>?_);refine wpAny_Slice ?_;rw[evalPart_none];refine cn (cn ?_);refine zU (n P M σ D _ y j) λU S ⟨o,B,u,N,g⟩=>?_;obtain⟨rfl,a,L,rfl,l,q⟩:=g;cases f;cases N with
 |int i t=>
  have d:Inv X P σ B { S with heap:=S.heap.push { cls:=.type "slice",data:=.fields #[.none,.none,.int (-1) t] } }:=u.kept (t':=S.toks) λb ob q=>ag _ q
  obtain⟨c,r,E,z⟩:=d.list l;have J:=r.length;have p:wpAny (model X.prog X.w) X.A (getItem (.ref a) (.ref S.heap.objs.size)) (EP X P σ Q) X.xe { S with heap:=S.heap.push { cls:=.type "slice",data:=.fields #[.none,.none,.int (-1) t] } }:=by
   refine wpAny_getItem_list_slice E.isList (Heap.IsSliceOf.new ..) .none .none (.int (-1) t) (by simp) ?_ (by rw[aI]<;>lia)
   rw[Cy];refine⟨.ref _,_,d.laid (t':=S.toks) (o:=.lst L.reverse) (λb ob q=>ag _ q) (ao _) ?_,rfl,q _ (d.hok.fresh (ao _))⟩;exact⟨by rw[length_reverse];exact z,c.reverse,0,FN r,aD _ rfl⟩
  show wpAny (model X.prog X.w) X.A (subscriptTail e (.Slice none none (some st) p2) (.ref a) (.ref S.heap.objs.size)) (EP X P σ Q) X.xe _;exact tail_any (ops:=[.ref a,.ref S.heap.objs.size]) E.isList.typeIs slot_list_getitem.lookup p (by with_unfolding_all rfl)
def Se (m M:Ev):Ev:=λb A=>(m b A).bind λw c=>(j9 M b c).bind λo a=>match w with
 |.ref n=>match a[n]? with|some (.lst ws)=>if o=some (-1) then .ok (.ref a.length) (a++[.lst ws.reverse]) else .bad|_=>.bad
 |_=>.bad
end
open PySem.W (KasT kas_asc kas_sort kat_run kat_snds kat_kind)
theorem Md {p:Array Nat}(H:∀i,i<n->p.getD i 0=i)(b:∀a,1<=a->a<n->c a (a-1)=false):∀(f a:Nat){Q:Nat->Prop},1<=a->a+f=n->Q n->TW n c (kas_asc p f a) Q
 |0,a,Q,_,e,h=>by obtain rfl:a=n:=e;exact h
 |f+1,a,Q,h1,e,h=>by
  have d:=H a (by lia)
  have E:=H (a-1) (by lia)
  refine⟨by lia,by lia,?_⟩
  rw[d,E,b a h1 (by lia)]
  exact Md H b f (a+1) (by lia) (by lia) h
def BX {Q:Array Nat->Prop}(d:2<=n)(b:∀a,1<=a->a<n->c a (a-1)=false)(h:Q (List.range n).toArray):TW n c (kas_sort n) Q:=by
 refine TW.bind _ (TW.bind _ (Md (p:=(List.range n).toArray) (λi H=>by simp[Array.getD,H]) b _ _ (ao _) (by lia) ?_))
 rw[ai (by simp)]
 show TW n c (if n<n then _ else _) Q;rw[aj (aT n)];exact h
section
variable {prog:Program}{A:Around}{s:Shared}
structure Sr (prog:Program)(w:World)(A:Around)(κ:SortKind)(vs:bS)(c:Nat->Nat->Bool)(s:Shared):Prop where
 kind:2<=vs.length->∀{Q:SortKind->Shared->Prop}{E:bY},Q κ s->wpAny (model prog w) A (keyKind' vs.toArray) Q E s
 lt:∀i j,i<vs.length->j<vs.length->∀{Q:Bool->Shared->Prop}{E:bY},Q (c i j) s->wpAny (model prog w) A (keyLt' κ (vs.getD i Value.none) (vs.getD j Value.none)) Q E s
def Ey {κ:SortKind}{K:bS}{P:PySem.Fin->Shared->Prop}(g:s.heap.get? a=some (seqObj "list" K.toArray n))(v:∀h':Heap,(∀b o,b≠a->s.heap.get? b=some o->h'.get? b=some o)->Sr prog w A κ K c { s with heap:=h' })(q:K.length<64)
  (B:∀a,1<=a->a<K.length->c a (a-1)=false)(h:P (.done (.ret .none)) { s with heap:=sortedHeap s.heap a K K.toArray }):
  wpAny (model prog w) A (Builtin.«list.sort» ⟨[.ref a],[]⟩) P E s:=by
 have J:a<s.heap.objs.size:=aM g;obtain⟨t,f⟩:∃t,(s.heap.update a (Obj.mapSeq λ_=>(#[]:Array Value))).get? a=some (seqObj "list" #[] t):=⟨_,get?_update_seq g λ_=>#[]⟩;have kp:∀b o,b≠a->s.heap.get? b=some o->(((s.heap.update a (Obj.mapSeq λ_=>(#[]:Array Value))).push (seqObj "tuple" K.toArray 0)).push (seqObj "list" #[] 0)).get? b=some o:=λb o N e=>
  ag _ (ag _ ((br _ _ (Ne.symm N)).trans e))
 have T:=v _ kp;have H:=ag (seqObj "list" #[] 0) (ag (seqObj "tuple" K.toArray 0) f);have d:K.toArray.size=K.length:=by simp
 rw[list_sort_plain];refine cj (listItems_at g rfl ?_);refine cj (listUpdate_at g rfl ?_ (by rw[d,sizeLine_eq];lia) (zero_le _))
 refine cj (seqEpoch_at f rfl ?_);refine cj (wpAny_newTuple ?_ (by show K.length<=_;rw[sizeLine_eq];lia))
 refine cj (wpAny_newList ?_ (zero_le _));refine wpAny_holding ?_;show wpAny (model prog w) A _ P E { s with heap:=((s.heap.update a (Obj.mapSeq λ_=>(#[]:Array Value))).push (seqObj "tuple" K.toArray 0)).push (seqObj "list" #[] 0) }
 dsimp only
 by_cases z:K.toArray.size<2
 ·rw[ai z,ai z]
  refine cj (cn ?_);rw[StateT.run_pure];refine cj (cn ?_);dsimp only;refine cj (seqEpoch_at H rfl ?_);show wpAny _ _ (Builtin.List.listUpdate (.ref a) (λ_=>(K.toArray.zip K.toArray).map (·.2)) >>= _) _ _ _;rw[iA K];refine cj (listUpdate_at H rfl ?_ (zero_le _) (by rw[d,sizeLine_eq];lia))
  simp only[bne_self_eq_false,false_eq_true,if_false];exact cn h
 ·rw[aj z,aj z]
  have M:2<=K.length:=by lia
  refine cj (T.kind M ?_);refine cj (wpAny_mono (kat_run (ks:=K) (G:=λp L=>L={ s with heap:=((s.heap.update a (Obj.mapSeq λ_=>(#[]:Array Value))).push (seqObj "tuple" K.toArray 0)).push (seqObj "list" #[] 0) }/\p=(List.range K.length).toArray)
   (Q:=λS L=>arrOf S=(List.range K.length).toArray.map (PySem.W.kas_item (K.toArray.zip K.toArray))/\failedOf S=none/\L={ s with heap:=((s.heap.update a (Obj.mapSeq λ_=>(#[]:Array Value))).push (seqObj "tuple" K.toArray 0)).push (seqObj "list" #[] 0) })
   rfl M q (λp S L U a2 I u=>⟨by rw[<- u.2];exact a2,I,u.1⟩) ?_) ?_ λ_ _ e=>e)
  ·exact TW.wp (n:=K.length) (c:=c) (λi j C y x D=>T.lt i j y x D) _ (BX M B ⟨rfl,rfl⟩)
  ·rintro⟨⟨⟩,S⟩ L ⟨r,l,rfl⟩
   dsimp only;rw[kat_snds rfl r,List.toList_toArray,iz];refine cj (seqEpoch_at H rfl ?_);refine cj (listUpdate_at H rfl ?_ (zero_le _) (by rw[d,sizeLine_eq];lia))
   rw[l];simp only[bne_self_eq_false,false_eq_true,if_false];exact cn h
def Bj {u:SortKind}{l:Addr}{v:bS}(i:s.heap.IsList l v.toArray)(T:∀(x:Around)(r:Heap)(t:Nat),x.units<=A.units+8->(∀b o,s.heap.get? b=some o->r.get? b=some o)->Sr prog w x u v c { s with heap:=r,toks:=t })(g:v.length<64)
  (j:∀a,1<=a->a<v.length->c a (a-1)=false)
  (h:∀(r:Heap)(a:Addr)(k:Nat),s.heap.objs.size<=a->r.get? a=some { cls:=.type "list",data:=.seq v.toArray k }->(∀b o,s.heap.get? b=some o->r.get? b=some o)->Q (.ref a) { s with heap:=r }):
  wpAny (model prog w) A (call (.builtin "sorted") [.ref l]) Q E s:=by
 refine Calls.call_function_entry kind_sorted plain_sorted entry_sorted (args_sorted1 _) ?_;unfold Builtin.«sorted»;refine cj (m:=checkCount "sorted" 1 1 _) (cn ?_);refine cj (collect_list i ?_ (by rw[sizeLine_eq];lia))
 refine cj (wpAny_newList ?_ (by rw[sizeLine_eq];lia))
 have f:((s.heap.push (seqObj "list" #[] 0)).update s.heap.objs.size (Obj.mapSeq (·++v.toArray))).objs.size=s.heap.objs.size+1:=by rw[Heap.size_update,size_push']
 show wpAny _ _ _ _ _ { s with heap:=((s.heap.push (seqObj "list" #[] 0)).update s.heap.objs.size (Obj.mapSeq (·++v.toArray))).push (seqObj "list" v.toArray 0) }
 have d:∀b o,s.heap.get? b=some o->((s.heap.push (seqObj "list" #[] 0)).update s.heap.objs.size (Obj.mapSeq (·++v.toArray))).get? b=some o:=λb o e=>
  (br _ _ (ne_of_gt (aM e))).trans (ag _ e)
 generalize (s.heap.push (seqObj "list" #[] 0)).update s.heap.objs.size (Obj.mapSeq (·++v.toArray))=h1 at f d;have H:(h1.push (seqObj "list" v.toArray 0)).get? h1.objs.size=some (seqObj "list" v.toArray 0):=aD _ rfl;have K:∀b o,s.heap.get? b=some o->(h1.push (seqObj "list" v.toArray 0)).get? b=some o:=λb o e=>ag _ (d b o e);have nb:∀b o,s.heap.get? b=some o->b≠h1.objs.size:=λb o e z=>by
  subst z
  have:h1.objs.size<s.heap.objs.size:=aM e
  lia
 refine cj (wpAny_holding (wpAny_call_entry slot_list_sort ⟨_,H,rfl⟩ entry_list_sort (Ey (κ:=u) (c:=c) H (λr kp=>T _ r _ (by first|(show A.units+1<=A.units+8;lia)|(show A.units+1+1<=A.units+8;lia)) λb o e=>kp b o (nb b o e) (K b o e)) g j ⟨_,rfl,?_⟩) (args_list_sort _)))
 refine cn ⟨_,rfl,?_⟩;have q:=get?_update_seq H (λ_=>(#[]:Array Value));have p:=ag (seqObj "list" #[] 0) (ag (seqObj "tuple" v.toArray 0) q);obtain⟨k,n⟩:∃k,(sortedHeap (h1.push (seqObj "list" v.toArray 0)) h1.objs.size v v.toArray).get? h1.objs.size=some (seqObj "list" v.toArray k):=⟨_,get?_update_seq p (λ_=>v.toArray)⟩;refine h _ h1.objs.size k (by lia) n λb o e=>?_
 unfold sortedHeap;exact(br _ _ (Ne.symm (nb b o e))).trans (ag _ (ag _ ((br _ _ (Ne.symm (nb b o e))).trans (K b o e))))
def Ew {d:bS}{K:bQ}{A:Around}(T:gi s.heap d K):Sr prog w A (tuples' (Value.type "int" != Value.type "tuple")) d (λi j=>yv (K.getD i []) (K.getD j [])) s where
 kind:=λg Q E h=>by obtain⟨fs,t,f,e⟩:=T.firsts;exact kat_kind (T:=.type "int") t (by lia) (λv H=>by obtain⟨i,c,rfl⟩:=e v H;exact PySem.W.Looks.of_pure rfl) rfl h
 lt:=λi j b a Q E h=>iC (T.at i (by rw[<- T.length];exact b)) (T.at j (by rw[<- T.length];exact a)) h
end
section
variable {m:Ev}
def WA (K:bQ):Bool:=(List.range K.length).all λa=>a==0 || !yv (K.getD a []) (K.getD (a-1) [])
def FR:yB X (.builtin "sorted") (λP H Q=>∃(p:Addr) (y:List V) (M:bQ) (N:bU),P=[.ref p]/\q9 X.K H p y/\zF X.K N H (M.map Ri) y/\(∀k∈M,k≠[])/\(M.length<64/\WA M=true)/\
  ∀l,H l=none->Q (.ref l) (upd H l (.lst y))):=by
 intro S s Z H P us Q I r h;obtain⟨p,y,M,N,rfl,g,d,Y,⟨x,w⟩,q⟩:=h;obtain⟨u,rfl,e⟩:=vals1 r;cases e;obtain⟨f,v,⟨o,k,B,z,L,E⟩,C⟩:=I.list g;have T:=O2 I d Y v;have J:=T.length;have D:=v.length;refine Bj (c:=λi j=>yv (M.getD i []) (M.getD j [])) ⟨o,B,z,k,E⟩ (λA U t _ kp=>Ew (s:={ s with heap:=U,toks:=t }) (T.keep kp)) (by lia) (λa h1 b=>?_) λU a c b n kp=>?_
 ·have:=cy.mp w a (cm.mpr (by lia))
  rw[a3,aL,not_eq_true']at this;exact this.resolve_left (by lia)
 ·refine⟨.ref a,_,I.laid (t':=s.toks) (o:=.lst y) kp b ⟨?_,_,c,v,n⟩,rfl,q _ (I.hok.fresh b)⟩
  rw[sizeLine_eq];lia
def Xn:W->Hx->R W:=λw A=>match w with
 |.ref n=>match A[n]? with
  |some (.lst ws)=>match QF ws with|some K=>if K.length<64/\WA K=true then .ok (.ref A.length) (A++[.lst ws]) else .bad|none=>.bad
  |_=>.bad
 |_=>.bad
def TH (m:Ev):Ev:=λa A=>(m a A).bind λw b=>Xn w b
end
structure Gw (x:Str)(sc:Scope):Prop where
 kind:sc.kind=.function
 co:sc.isCoroutine=false
 gen:sc.isGenerator=false
 nocell:∀y∈sc.names,y.2≠.cell
 loc:sc.names.lookup x=some .local
def MY (x:Str)(S:Scope):Bool:=S.kind==.function&&!S.isCoroutine&&!S.isGenerator&&S.names.all (λy=>!(y.2==.cell))&&S.names.lookup x==some .local
def BI (h:MY x sc=true):Gw x sc:=by
 unfold MY at h;simp only[ak,aL,not_eq_true']at h;obtain⟨⟨⟨⟨e,d⟩,c⟩,b⟩,a⟩:=h;refine⟨e,d,c,λy H=>?_,a⟩
 have:=cy.mp b y H
 simpa using this
section
variable {K:Frag}{cd:Value}{cl:b9}{A:Around}{outer:b8}{s:Shared}{E:XK}
def Dr {X:Heap}{T:Tok}(S:Gw x scope)(Y:A.handled=none)(d:J4 P w K mg base A outer s H)(C:ZX base N scope cl vs)(r:RelV v u)(q:X.Ns s.heap.objs.size λy=>[(x,u)].reverse.lookup y)(t:∀b o,s.heap.get? b=some o->X.get? b=some o):
  Inv (kL P w K mg base (x::N) qual scope f cd cl A outer s H E) [] (L2.start (x::N) (v::vs)) H { s with heap:=X,toks:=T }:=by
 have n:∀b:Addr,b∉(kL P w K mg base (x::N) qual scope f cd cl A outer s H E).ex:=λb z=>absurd (show b∈([]:bU) from z) (by simp)
 have bk:∀c v,base.IsCell c v->X.IsCell c v/\H c=none:=λc v ⟨o,B,Y⟩=>⟨⟨o,t _ _ (d.bs _ _ B).1,Y⟩,(d.bs _ _ B).2⟩;refine⟨⟨d.mod,S.kind,rfl,rfl,ao _,C.inj,λy g=>?_,λy c z _=>(nomatch z),λ_=>Y,Around.frames_deeper d.frames,.inr ⟨rfl,rfl⟩,λb z=>absurd z (n b),d.bs,d.bsz,λb _ _=>n b,λb z=>absurd z (n b),d.funs,d.frf⟩,
  rfl,d.bare,Un.kept t,⟨_,q,λi y j X U Q=>?_⟩,λy c h=>?_,d.hok.fresh (ao _),λy c h=>?_,λp I=>absurd (show p∈([]:bV) from I) (by simp),d.hok.kept t,?_⟩
 ·have g:scope.names.lookup y=some .cell∨scope.names.lookup y=some .free:=g
  rcases g with g|g
  ·exact absurd rfl (S.nocell _ (PySem.mem_of_lookup g))
  ·exact C.has y g
 ·have D:L2.start (x::N) (v::vs)=some v::L2.start N vs:=by unfold L2.start;simp only[aS,bc,Nat.add_sub_add_right,List.cons_append]
  rw[D]at U;cases i with
  |zero=>
   have M:some x=some y:=X;cases M;have L:some (some v)=some (some j):=U;cases L;exact⟨u,r,.inl ⟨S.loc,by show [(x,u)].lookup x=some u;simp⟩⟩
  |succ i=>
   have X:N[i]? =some y:=X;have U:(L2.start N vs)[i]? =some (some j):=U;have l:i<vs.length:=by
    unfold L2.start at U
    by_cases l:i<vs.length
    ·exact l
    ·rw[ar (by simpa using l)]at U
     rw[bg]at U
     split at U<;>cases U
   have J:vs[i]? =some j:=by
    unfold L2.start at U;rw[ah (by simpa using l),ay]at U
    cases e:vs[i]? with|none=>rw[e]at U;cases U|some a=>rw[e]at U;cases U;rfl
   obtain⟨c,u,k,e,z,r⟩:=C.val i y j X J;exact⟨u,r,.inr ⟨.inr k,c,e,(bk _ _ z).1⟩⟩
 ·obtain⟨v,z⟩:=C.cell y c h
  exact⟨v,(bk _ _ z).1⟩
 ·obtain⟨v,z⟩:=C.cell y c h
  exact(bk _ _ z).2
 ·unfold L2.start
  show _=(x::N).length;rw[au,af,bq,bc,bc,C.len];lia
inductive So (K:Frag)(a:Addr)(ob:Obj)(u:HO)(c:Addr)(oc:Obj)(uc:HO)(vs:List V)(g:Fn)(us:List V)(H:Hp)(Q:VK)(E:XK):Prop
 |mk (e:us.length=1) (h1:H a=some (.frz ob u)) (h2:H c=some (.frz oc uc)) (φ:bU) (A:Hx) (ws:List W) (S:zL K φ A H) (r:zF K φ H ws (us++vs)) (q:(g ws A).post (PB K φ H Q) (EB K φ H (kj K E)))
def Cg {k:Nat}{name:Str}{params:Arguments}{body:Expr}{pm ctv:Value}{c:Addr}{j:Obj}{u uc:HO}{m:Ev}(S:Gw x scope)(C:ZX base N scope cl vs)(z:TN j qual)
  (g:∀(A:Around)(outer:b8)(s:Shared)(H:Hp)(E:XK),jd k (A.deeper (envX qual scope s.heap.objs.size a (.ref c) cl))->wO (kL P w K mg base (x::N) qual scope a (.ref c) cl A outer s H E) s.heap (kj K E)->
   SE (kL P w K mg base (x::N) qual scope a (.ref c) cl A outer s H E) (kj K E) body m):
  yt P w K mg base (wU P w) (k+1) a (kla_fn name qual params body scope cl pm (.ref c) ctv) [x] (So K a (kla_obj name qual params body scope cl pm c ctv) u c j uc vs λws A=>m (ws.map some) A):=by
 refine⟨λus H Q E h=>by cases h with|mk e=>rw[e];rfl,λA outer s H args us i Q E q n hb r h=>?_⟩
 obtain⟨he,h1,h2,φ,A1,ws,Sm,L,hp⟩:=h;obtain⟨v,rfl⟩:∃v,i=[v]:=by
  cases i with
  |nil=>cases he|cons v t=>cases t with|nil=>exact⟨v,rfl⟩|cons _ _=>cases he
 obtain⟨U,rfl,Z⟩:=r.one;have ho:s.heap.get? a=some (kla_obj name qual params body scope cl pm c ctv):=(show qZ P w H s.heap a (.frz _ u) from n.hok a _ h1).1
 have hc:s.heap.get? c=some j:=(show qZ P w H s.heap c (.frz j uc) from n.hok c _ h2).1
 have lim:s.heap.NoLimit:=n.mod.nolimit.keeps λb o e=>(n.bs b o e).1;obtain⟨M,X,D,hd2⟩:=z;refine kla_callFunE q.depth ho rfl S.co S.gen rfl ⟨c,j,M,X,rfl,hc,D,hd2⟩ (hb _ _ _ _ ?_);refine wpAny_newFunctionEnv (λy p=>S.nocell y p) (λy p=>?_) (λd B l=>⟨lim.fresh _ l,?_⟩) S.kind
 ·have:y=(x,U):=by simpa using p
  rw[this];exact S.loc
 show codeAny _ _ (.expr body (envX qual scope s.heap.objs.size a (.ref c) cl)) _ _;have f:∀b o,s.heap.get? b=some o->d.get? b=some o:=λb o e=>l.extBut b o (aO (aM e)) (ag _ e);have I:∀T,Inv (kL P w K mg base (x::N) qual scope a (.ref c) cl A outer s H E) [] (L2.start (x::N) (v::vs)) H { s with heap:=d,toks:=T }:=λT=>Dr S q.hd n C Z B f
 refine kla_codeExpr (wpAny_mono (g A outer s H E (q.deeper _) Mz [] _ (L2.start (x::N) (v::vs)) H Q (I _) ⟨φ,A1,_,Sm,RE.start (N:=x::N) L,?_⟩) (λv s' hv=>?_) λ_ _ y=>y)
 ·have:(x::N).length-ws.length=0:=by rw[L.length];simp[C.len]
  rw[this,List.replicate_zero,aX];exact hp
 ·obtain⟨y,H',J,Y,qq⟩:=hv
  exact⟨y,H',J.os,J.bare,J.base,J.hok,Y,qq⟩
end
def gn (D B:Heap):Prop:=∀b o,D.get? b=some o->B.get? b=some o
def Qv (P:Program)(w:World)(K:Frag)(M:b0)(b:Heap)(j:Nat)(p:Obj->Addr->Obj->List V->Prop)(g:Fn):Prop:=
 ∀a ob u c o U v,p ob c o v->(∃fd,ob.data=.func fd)/\∃(fd:FuncData) (ps:bX),yt P w K M b (wU P w) j a fd ps (So K a ob u c o U v g)/\∀(s:Shared)(us:bS),us.length=1->BindsTo s fd ⟨us,[]⟩ (ps.zip us)
structure Ss (P:Program)(w:World)(K:Frag)(mg:b0)(j:Nat)(q x:Str)(t:Lm):Prop where
 sc:Gw x t.scope
 bind:∀(cl:b9)(pm cdv ctv v:Value),bindArgs (kla_fn "<lambda>" q t.params t.body t.scope cl pm cdv ctv) ⟨[v],[]⟩=pure [(x,v)]
 body:∀(base:Heap)(cl:b9)(a c:Addr)(A:Around)(outer:b8)(s:Shared)(H:Hp)(E:XK),jd j (A.deeper (envX q t.scope s.heap.objs.size a (.ref c) cl))->wO (kL P w K mg base (x::t.N) q t.scope a (.ref c) cl A outer s H E) s.heap (kj K E)->
  SE (kL P w K mg base (x::t.N) q t.scope a (.ref c) cl A outer s H E) (kj K E) t.body t.m
structure Y0 (D:Heap)(P:Program)(w:World)(K:Frag)(mg:b0)(j:Nat)(q:Str)(t:Lm):Prop where
 sc:GD t.N t.scope
 bind:∀(cl:b9)(pm cdv ctv:Value),bindArgs (kla_fn "<lambda>" q t.params t.body t.scope cl pm cdv ctv) ⟨[],[]⟩=pure []
 body:∀(base:Heap)(cl:b9)(a c:Addr)(A:Around)(outer:b8)(s:Shared)(H:Hp)(E:XK),gn D base->jd j (A.deeper (envX q t.scope s.heap.objs.size a (.ref c) cl))->wO (kL P w K mg base t.N q t.scope a (.ref c) cl A outer s H E) s.heap (kj K E)->
  SE (kL P w K mg base t.N q t.scope a (.ref c) cl A outer s H E) (kj K E) t.body t.m
def ZX.sub {B:Heap}{cl:b9}(h:ZX base N sc cl vs)(k:gn base B):ZX B N sc cl vs:=
 have K:∀{c v},base.IsCell c v->B.IsCell c v:=λ⟨o,H,f⟩=>⟨o,k _ _ H,f⟩
 ⟨h.len,h.inj,h.has,λx c e=>let ⟨v,z⟩:=h.cell x c e;⟨v,K z⟩,λi x v d E=>let ⟨c,u,a,b,z,r⟩:=h.val i x v d E;⟨c,u,a,b,K z,r⟩⟩
section
variable {K:Frag}{D:Heap}{j:Nat}{q:Str}{t:Lm}
def iG (l:Ss P w K mg j q x t)(e:∀vs,Z7 t.idx σ=some vs->ZX base t.N t.scope (kX env t.scope.names []) vs):Qv P w K mg base (j+1) (gA env q [t] σ 0) λws A=>t.m (ws.map some) A:=by
 rintro a ob u c o g vs ⟨T,i,⟨⟨p,C,rfl⟩,h⟩,d⟩
 cases i;refine⟨⟨_,rfl⟩,_,[x],Cg (name := "<lambda>") (params:=t.params) (body:=t.body) (pm:=p) (ctv:=C) (a:=a) (c:=c) (u:=u) (uc:=g) (m:=t.m) l.sc (e vs d) h λA f s H E r X=>l.body base _ a c A f s H E r X,λs U b=>?_⟩;obtain⟨v,rfl⟩:∃v,U=[v]:=by
  cases U with
  |nil=>cases b|cons v t=>cases t with|nil=>exact⟨v,rfl⟩|cons _ _=>cases b
 exact .of_eq (l.bind _ _ _ _ v)
def BS (l:Y0 D P w K mg j q t)(g:gn D base)(f:∀vs,Z7 t.idx σ=some vs->ZX base t.N t.scope (kX env t.scope.names []) vs)(k:Nat):Jf P w K mg base (j+1) (gA env q [t] σ k) (gr [t] k):=by
 rintro a ob u c o U vs ⟨T,p,⟨⟨B,C,rfl⟩,b⟩,v⟩
 have e:T=t:=cz.mp (mem_of_getElem? p);subst e;refine⟨⟨_,rfl⟩,_,((hW (name := "<lambda>") (params:=T.params) (body:=T.body) (pm:=B) (ctv:=C) (a:=a) (c:=c) (u:=u) (uc:=U) (m:=T.m) l.sc (f vs v) b λA n s H E d x=>l.body base _ a c A n s H E g d x)).imp λL H Q E h=>?_,λs=>.of_eq (l.bind _ _ _ _)⟩;obtain⟨J,I,i,y,A,z,S,r,h⟩:=h;refine⟨J,I,i,y,A,z,S,r,?_⟩;unfold gr at h;rw[p]at h;exact h
end
section
variable {s:Shared}{t:Lm}{j:Nat}{q:Str}
def KL (I:Inv X o6 σ H s)(C:Qs X):J4 X.prog X.w X.K X.mg (gM X.base s.heap X.env.cells) X.A X.stack s H/\gn X.base (gM X.base s.heap X.env.cells):=by
 have kb:gn X.base (gM X.base s.heap X.env.cells):=λb o e=>EC I.bk e;have M:Mod X.K X.mg (gM X.base s.heap X.env.cells):=by obtain⟨f,c,B⟩:=I.mod.blt;exact⟨I.mod.kin.keeps kb,I.mod.glob.keeps kb,⟨f,c.keeps kb,B⟩,I.mod.nolimit.keeps kb⟩
 have bs:∀b o,(gM X.base s.heap X.env.cells).get? b=some o->s.heap.get? b=some o/\H b=none:=λb o e=>by
  obtain⟨a,E⟩:=OQ e;refine⟨a,?_⟩;rcases E with ⟨d,E⟩|⟨y,E⟩
  ·exact(I.bs b d E).2
  ·exact I.freeC y b E
 refine⟨⟨I.ok.frames,M,bs,Nat.le_of_eq (hideAll_size _ _),frames_at I.stack λb h=>?_,I.stkFree,I.hok,I.bare⟩,kb⟩;cases e:(gM X.base s.heap X.env.cells).get? b with
 |none=>rfl|some o=>
  exfalso;rcases(OQ e).2 with ⟨d,E⟩|⟨y,E⟩
  ·have:=(I.stack.mem h).1
   rw[E]at this;cases this
  ·exact C o6 σ H s I y b E h
def PQ (I:Inv X o6 σ H s)(C:Qs X)(l:Y0 X.base X.prog X.w X.K X.mg j q t)(x:XW X t):∀k,Jf X.prog X.w X.K X.mg (gM X.base s.heap X.env.cells) (j+1) (gA X.env q [t] σ k) (gr [t] k):=
 λk=>BS l (KL I C).2 (λb h=>OP I (λy c v e ⟨o,a,d⟩=>⟨o,Pr e a,d⟩) x h) k
end
open Classical in
def Q5 (i:Nat)(p:Obj->Addr->Obj->List V->Prop)(g:Fn)(M:Ea):Ev:=λa A=>match a[i]? with|some (some (.clo _ ws P))=>if P=p then zP (λu=>g (u++ws)) M a A else .bad|_=>.bad
section
variable {K:Frag}{oF:bU}{H':Hp}
mutual
theorem RV.nar (E:∀(n:Nat)(a:Addr),φ[n]? =some a->oF[n]? =some a):∀{w:W}{v l:V},RV K φ H w l->RV K oF H' w v->RV K φ H' w v
 |.non,_,_,_,h=>h|.bl _,_,_,_,h=>h|.int _,_,_,_,h=>h|.str _,_,_,_,h=>h|.tup j,_,_,⟨_,_,_,_,b⟩,⟨a,g,e,t,r⟩=>⟨a,g,e,t,zF.nar E b r⟩|.ref n,_,_,⟨A,_,i⟩,⟨a,e,f⟩=>⟨a,e,by rw[<- aC ((E _ _ i).symm.trans f)];exact i⟩|.clo _ j P,_,_,⟨_,_,_,_,_,_,_,_,_,_,_,b⟩,⟨a,ob,u,c,o,uc,g,e,h1,h2,d,r⟩=>⟨a,ob,u,c,o,uc,g,e,h1,h2,d,zF.nar E b r⟩|.xc x,_,_,_,h=>h|.fn _,_,_,_,h=>h
theorem zF.nar (E:∀(n:Nat)(a:Addr),φ[n]? =some a->oF[n]? =some a):∀{c:List W}{d b:List V},zF K φ H c b->zF K oF H' c d->zF K φ H' c d
 |[],_,_,_,h=>h|w::c,_,_,⟨_,_,_,h0,t0⟩,⟨v,r,e,h,t⟩=>⟨v,r,e,RV.nar E h0 h,zF.nar E t0 t⟩
end
theorem OR.nar (x:∀(n:Nat)(a:Addr),φ[n]? =some a->oF[n]? =some a){o:O}(i:OR K φ H b o)(h:OR K oF H' a o):OR K φ H' a o:=by
 cases o with|lst w=>obtain⟨_,_,c⟩:=i;obtain⟨v,e,r⟩:=h;exact⟨v,e,zF.nar x c r⟩|ro w=>obtain⟨_,_,c⟩:=i;obtain⟨v,e,r⟩:=h;exact⟨v,e,zF.nar x c r⟩|dct g=>obtain⟨_,_,_,c⟩:=i;obtain⟨v,e,E,r⟩:=h;exact⟨v,e,E,zF.nar x c r⟩|td g=>obtain⟨_,_,_,_,c⟩:=i;obtain⟨X,e,E,d,r⟩:=h;exact⟨X,e,E,d,zF.nar x c r⟩|tr g=>obtain⟨_,_,_,_,_,_,_,c⟩:=i;obtain⟨ob,u,X,e,E,d,f,r⟩:=h;exact⟨ob,u,X,e,E,d,f,zF.nar x c r⟩|tab q P=>exact h
def zL.forget {b:bU}{d:Hp}{us ws2:List W}(S:zL K φ A H)(p:zL K b B d)(l:Le K φ H b d)(z:A[n]? =some (.lst us))(v:∀i,i<A.length->i≠n->B[i]? =A[i]?)(u:B[n]? =some (.lst ws2))(nr:qQ ws2=true):
  zL K φ (A.set n (.lst ws2)) d/\Le K φ H φ d:=by
 have g:n<A.length:=(cu.mp z).1;have at_:∀i o,(A.set n (.lst ws2))[i]? =some o->B[i]? =some o:=λi o e=>by
  by_cases q:n=i
  ·subst q
   rw[av g]at e;cases e;exact u
  ·rw[aw q]at e
   rw[v i (cu.mp e).1 (Ne.symm q)];exact e
 refine⟨⟨by rw[bF];exact S.len,λi j a o C J I x w D M=>p.inj i j a o C (l.ex _ _ J) (l.ex _ _ I) (at_ _ _ x) (at_ _ _ w) D M,λi o e=>?_⟩,⟨λ_ _ h=>h,l.tp,l.fr,λ_ _ h=>.inl h,l.st,l.fz⟩⟩
 obtain⟨a,f,r⟩:=p.ob i o (at_ i o e)
 by_cases q:n=i
 ·subst q
  rw[av g]at e;cases e;obtain⟨c,y,_⟩:=S.ob n _ z;have E:c=a:=aC ((l.ex _ _ y).symm.trans f);subst E;exact⟨c,y,r.nrL nr⟩
 ·rw[aw q]at e
  obtain⟨c,y,t⟩:=S.ob i o e;have E:c=a:=aC ((l.ex _ _ y).symm.trans f);subst E;exact⟨c,y,t.nar l.ex r⟩
def zL.tell {U:List W}(S:zL K φ A H)(w:A[n]? =some (.lst U))(h:∀vs,zF K φ H U vs->zF K φ H ws vs):zL K φ (A.set n (.lst ws)) H:=by
 have l:n<A.length:=(cu.mp w).1;have at_:∀(i:Nat)(o:O),(A.set n (.lst ws))[i]? =some o->∃v:O,A[i]? =some v/\v.mut=o.mut:=λi o e=>by
  by_cases q:n=i
  ·subst q
   rw[av l]at e;cases e;exact⟨_,w,rfl⟩
  ·rw[aw q]at e
   exact⟨o,e,rfl⟩
 refine⟨by rw[bF];exact S.len,λi j a o v B z u t y M=>?_,λi o e=>?_⟩
 ·obtain⟨p,c,b⟩:=at_ i o u
  obtain⟨d,x,P⟩:=at_ j v t;exact S.inj i j a p d B z c x (b.trans y) (P.trans M)
 ·by_cases q:n=i
  ·subst q
   rw[av l]at e;cases e;obtain⟨a,f,vs,g,r⟩:=S.ob n _ w;exact⟨a,f,vs,g,h vs r⟩
  ·rw[aw q]at e
   exact S.ob i o e
end
def PJ:Obj->Addr->Obj->List V->Prop:=λ_ _ _ _=>True
def Q9 (n:Nat)(q:Str)(P:Addr)(i:bW)(M:Ev)(g:W->List W->Hx->R W):Ev:=λa A=>(M a A).bind λw b=>match b[n]? with
 |some (.tab Q P')=>if Q=q/\P'=P then(match QM i a with|some c=>g w c b|none=>.bad) else .bad
 |_=>.bad
section
variable {g:W->List W->Hx->R W}
def Hand (f:(Obj->Addr->Obj->List V->Prop)->Fn)(g:W->List W->Hx->R W)(P:Obj->Addr->Obj->List V->Prop)(w:W)(b:List W)(A:Hx):Prop:=
 g w b A=.bad∨∃v B n u a,f P [w,.ref A.length] (A++[O.lst [.clo 0 b P]])=.ok v B/\v.nr=true/\g w b A=.ok v ((A++[O.lst [.clo 0 [] PJ]]).set n (.lst a))/\A[n]? =some (.lst u)/\qQ a=true/\B[n]? =some (.lst a)/\
  ∀i,i<A.length+1->i≠n->B[i]? =(A++[O.lst [.clo 0 b P]])[i]?
end
open PySem PySem.Spec PyProof.Rows L2 Mi
@[irreducible] def Vy (X:Cx)(x:XR)(e:bZ)(M:List Ev):Prop:=Mi.SJ X x e M
def NN:@Vy=@Mi.SJ:=by delta Vy;rfl
section
def Jz {g:Heap}{E:bZ}{k:Nat}{f:Fn}(o:wO X g xr)(F:yw X.prog X.w X.K X.mg X.base k x n f)(i:jd k X.A)(C:gy X xr (e::E) mr)(j:ZI mr n:=by repeat' (first|exact zO|refine zA ?_))(u:Gl X x:=by rfl)
  (c:yG x:=by decide)(he:ji e E X:=by rfl)(l:wR o7 E X:=by rfl):
  zx X xr (.Call (.Name x p) (e::E) [] o7) (zP f mr):=by
 simp only[qa,NN]at*;obtain⟨fa,fd,ps,F,hm,t,B⟩:=F;refine PE.imp (O3 F i u hm t B .nil o.passes C c he l) λσ H Q ⟨Z,A,T,S,re,h⟩=>?_;have P:=zY.mp h;refine⟨Z,A,T,S,re,?_⟩;cases r:mr T A with
 |ok Y U=>
  rw[r]at P;intro b H1 vs L J q;have v:vs.length=n:=by rw[<- q.length];exact j T A Y U r
  rw[aX];refine⟨v,b,U,Y,J,q,qD P (λ_ _ z=>z.mono L) λy A2 z a M d I N D=>?_⟩;exact⟨y,N,rfl,D,z a M (L.trans d) I⟩
 |exc y U=>rw[r]at P;exact P|bad=>rw[r]at P;exact P
def AL {m:Ev}(h:zx X.nox jX e m):zx X xr e λρ A=>(m ρ A).nox:=by
 simp only[qa,NN]at*;refine PE.imp (PE.nox h) λc H Q ⟨a,A,ρ,S,r,q⟩=>⟨a,A,ρ,S,r,?_⟩;cases E:m ρ A with|ok w b=>(try dsimp only at q);rw[E]at q;exact q|exc y b=>(try dsimp only at q);rw[E]at q;exact q.elim|bad=>(try dsimp only at q);rw[E]at q;exact q.elim
def UT {m:Ev}(h:yX X.nox jX e m):yX X xr e λρ A=>(m ρ A).nox:=by
 simp only[qa,NN]at*;refine PT.imp (PT.nox h) λc H Q ⟨a,A,ρ,S,r,q⟩=>⟨a,A,ρ,S,r,?_⟩;cases E:m ρ A with|ok w b=>(try dsimp only at q);rw[E]at q;exact q|exc y b=>(try dsimp only at q);rw[E]at q;exact q.elim|bad=>(try dsimp only at q);rw[E]at q;exact q.elim
def OO {M:Ex}{a:cg}(h:yR X.nox jX a M):yR X xr a λρ A=>(M ρ A).nox:=by
 simp only[qa,NN]at*;refine yV.imp (yV.nox h) λD d H ⟨b,A,ρ,S,r,q⟩=>⟨b,A,ρ,S,r,?_⟩;cases e:M ρ A with|ok w c=>(try dsimp only at q);rw[e]at q;exact q|exc y c=>(try dsimp only at q);rw[e]at q;exact q.elim|bad=>(try dsimp only at q);rw[e]at q;exact q.elim
def Gq {g:Heap}{E:bZ}{top:Str}{N:Pos}(o:wO X g xr)(c:UD X.K top x)(d:gy X xr (e::E) mr)(l:ZI mr n:=by repeat' (first|exact zO|refine zA ?_))(f:n<=sizeLine:=by decide)(a:Gl X x:=by rfl)(h:X.calm=true:=by rfl)
  (b:yG x:=by decide)(i:ji e E X:=by rfl)(H:wR oD E X:=by rfl):
  ko X xr (.Raise (some (.Call (.Name x N) (e::E) [] oD)) none o7) (NU x mr):=by
 simp only[qa,NN]at*;exact CI o c.at_ c.exc PySem.F.excBase_ValueError d l f a h b i H
def iH {K:Frag}{C:Stmt}{fd:FuncData}{ps:bX}{k:Nat}{m:Ex}(F:wm K x x C f fd)(hm:mg x=some (.ref f))(S:wy N ps (qj C))
  (j:∀(kV I T:Value)(X:cf)(c ct:Value)(U:bS),U.length=ps.length->bindArgs (fnOf x x (Za C) (j6 C) (qj C) .none kV I T X c ct) ⟨U,[]⟩=pure (ps.zip U))
  (a:∀(c:Value)(A:Around)(B:b8)(s:Shared)(H:Hp)(E:XK),jd k (A.deeper (envOfC x (qj C) s.heap.objs.size f c))->
   wO (kg (wU P w) P w K mg base N x (qj C) f c A B s H E) s.heap (kj K E)->yR (kg (wU P w) P w K mg base N x (qj C) f c A B s H E) (kj K E) (j6 C) m):
  yw P w K mg base (k+1) x ps.length (gm N.length m):=by
 simp only[qa,NN]at*;refine⟨f,fd,ps,?_,hm,F.kp,F.binds j⟩;obtain⟨v,u,kV,I,T,X,c,ct,o,rfl,lk,d⟩:=F.ex;refine T7 lk d S (λZ H Q E h=>h.len) λA B s H Z Q E i ⟨z,L,Y,J,p,r,h⟩=>⟨_,a c A B s H E i gv,?_⟩;refine⟨L,Y,J.map some++List.replicate (N.length-J.length) none,p,RE.start r,?_⟩;have D:=zY.mp h;show R.post _ (FB K L H _) _;cases e:m (J.map some++List.replicate (N.length-J.length) none) Y with
 |ok n A2=>
  rw[e]at D;cases n with|rt w=>exact D|nx M=>exactλb t g l q _=>D b t .non l q rfl|bk M=>exact D.elim|ct M=>exact D.elim
 |exc y A2=>rw[e]at D;exact D|bad=>rw[e]at D;exact D.elim
def AE {L:Addr}{j:Nat}{l:Nat}{n:Str}{y:Str}{Z:Str}{cs:bX}{PG:Nat->Obj->Addr->Obj->List V->Prop}{lam:Nat->Fn}{U:bS}{oP:String}{np:Pos}{cp:Pos}{ep:Pos}{dp:Pos}{yp:Pos}{J:Pos}{ap:Pos}{hp:Pos}(hL:∀k,Jf X.prog X.w X.K X.mg X.base kk (PG k) (lam k))(hr:jd kk X.A)(hst:X.stack=X.env::X.outer)(hFr:X.env.frame=some L)(hD:kG X.K Z (.ref D))(exD:Mi.ZJ X.K D U oP=true)(hbD:U.contains (.type "BaseException")=true)
  (hcs:∀c,cs.contains c=true->∀C,kG X.K c (.ref C)->∃B f,Mi.ZJ X.K C B f=true/\J1 X.K C D=true)
  (hN:X.N.Nodup)(hi:X.N[i]? =some x)(hx:X.env.scope.names.lookup x=some .local)(hl:X.N[l]? =some n)(hn:X.env.scope.names.lookup n=some .local)(hj:X.N[j]? =some y)(hy:X.env.scope.names.lookup y=some .local)
  (hg:Gl X Z)(hs1:swapsWith (.Call (.Name x np) [] [] cp) none ep.line X.env=pure false:=by rfl)(hs2:swapsWith (.Name n J) (some (.Name y yp)) ap.line X.env=pure false:=by rfl)
  (hdx:yG x:=by decide)(hdn:yG n:=by decide)(hdD:yG Z:=by decide):
  ko X xr (.Try [.Expr (.Call (.Name x np) [] [] cp) ep] [.ExceptHandler (some (.Name Z dp)) (some n) [.Assign [.Name y yp] (.Name n J) ap] hp] [] [] o7) (WH i j l cs PG lam):=by
 simp only[qa,NN]at*;intro o6 s σ H D0 I ⟨φ,A,ρ,S,re,h⟩;unfold WH X3 at h;cases ei:ρ[i]? with
 |none=>rw[ei]at h;exact h.elim|some ow=>
  cases ow with
  |none=>rw[ei]at h;exact h.elim|some w=>
   rw[ei]at h;cases w with
   |clo k ws P=>
    dsimp only at h
    by_cases hP:P=PG k
    ·rw[ai hP]at h
     subst hP;obtain⟨v,hv,a,ob,u,c,oc,uc,vs,rfl,h1,h2,hp',rvs⟩:=re.get i _ ei;obtain⟨⟨fd0,hfd⟩,fd,F,hb⟩:=hL k a ob u c oc uc vs hp';have ho:s.heap.get? a=some ob:=(show qZ X.prog X.w H s.heap a (.frz ob u) from I.hok a _ h1).1
     refine hA (i:=l) (L:=L) (k:=zfi X.K φ H ρ j l D0)
      I hst hFr hD exD hbD hN hl (.inl hn) ?body ?t hg hdD (.inr hn)
     case body=>
      refine wpAny_execs_cons (wpAny_Expr_any ?_ I.quiet hs1);obtain⟨m,hns,Q⟩:=I.loc;obtain⟨u',r',lk⟩:=Q i x (.ref a) hi hv (.inl hx);obtain rfl:u'=Value.ref a:=r';have hm:m x=some (.ref a):=by
       rcases lk with ⟨_,e⟩|⟨q|q,_⟩
       ·exact e
       ·rw[show X.env.kindOf x=some .local from hx]at q;cases q
       ·rw[show X.env.kindOf x=some .local from hx]at q;cases q
      refine wpAny_Call_Name_kw (wpAny_Name (wpAny_loadName_local I.ok.kind hx hns hm ?_) hdx);have hK:Frag.In [(a,ob)] s.heap:=λb o e=>by
       rw[bH]at e
       by_cases hb:b=a
       ·subst hb;simp at e;subst e;exact ho
       ·have:(b==a)=false:=by simpa using hb
        rw[this]at e;cases e
      have hkp:keepIn [(a,ob)] (.ref a)=true:=by
       unfold keepIn;obtain⟨o1,o2,o3,o4⟩:=ob;cases (show o3=_ from hfd)
       simp[bH]
      refine PySem.W.callWith_K0 (K:=[(a,ob)]) (first:=[]) hK hkp ?_;refine wpAny_call (codeAny_mono (F.run X.A X.stack s H ⟨[],[]⟩ [] [] (λ_ H1=>D0.nx σ H1)
       (zeP X.K φ H ρ j l D0 cs)
       hr I.env0 (hb s) .nil ⟨rfl,h1,h2,φ,A,ws,S,rvs,?_⟩) λr s' p=>?_)
      ·cases er:lam k ws A with
       |ok w1 A1=>
        rw[er]at h;exactλd H' v' z Y _=>h d H' σ z Y (re.mono z)
       |exc E A1=>
        rw[er]at h;dsimp only at h
        by_cases T:cs.contains E=true
        ·rw[ai T]at h
         exactλd H' z Y Ca g=>⟨E,Ca,rfl,g,T,d,A1,z,Y,h⟩
        ·rw[aj T]at h;exact h.elim
       |bad=>rw[er]at h;exact h.elim
      ·cases r with
       |error e=>
        unfold CR at p;dsimp only at p;have un:∀b o,s.heap.get? b=some o->∃o',s'.heap.get? b=some o':=by obtain⟨_,_,_,_,_,_,un,_⟩:=p;exactλb o e=>un.there b o e (by simp)
        obtain⟨ea,C,H',rfl,I',ly,tr,E,Ca,ec,g,T,oJ,A1,l1,S1,hn1⟩:=Oc I p s.heap λb o e=>⟨o,e⟩;cases ec;obtain⟨B,f,exC,up⟩:=hcs E T C g;exact⟨ea,C,H',B,f,rfl,I',ly,tr,un,exC,up,λoe hoe M=>⟨E,oJ,A1,l1.trans (Le.new M),S1.lay M,⟨ea,oe,.own 0,C,rfl,jY,hoe,g⟩,hn1⟩⟩
       |ok fl=>
        cases fl with
        |ret u1=>
         obtain⟨v1,H1,I1,_,q1⟩:=I.after p;exact wpAny_execs_nil ⟨rfl,σ,H1,I1,q1⟩
        |next=>exact False.elim p|brk=>exact False.elim p|cont=>exact False.elim p
     case t=>
      rintro ea C H2 s2 I2 ⟨E,d,A',z,Y,rx,hn'⟩ E'
      refine Eb (i:=l) (j:=j) I2 hN hl hj hn (.inl hy) (λs' I'=>?_) hs2 (.inr hy) hdn;exact⟨_,H2,I',hn' d H2 _ z Y ((((re.mono z).set rx).set rx).unset)⟩
    ·rw[aj hP]at h;exact h.elim
   |_=>exact h.elim
def kU {m:Ev}{P:Pos}{f:Str->Option Bool}{C:Addr}(b:Ww X.K f (.ref C))(d:kG X.K x (.ref C))(o:X.mg "isinstance"=none)(i:zx X xr e m)(g:Gl X "isinstance":=by rfl)(a:Gl X x:=by rfl)(q:yG x:=by decide)
  (l:starEach [e,.Name x P] X.env=(false,eval e X.env)::starEach [.Name x P] X.env:=by rfl)(t:(backTo o7 (starEach [.Name x P] X.env)).any (·.1)=false:=by rfl):
  zx X xr (.Call (.Name "isinstance" p) [e,.Name x P] [] o7) (yq f m):=by
 simp only[qa,NN]at*;have c:PE X (.Name x P) (tC (.ref C)):=λj s n H Q I h=>YF I a (mg_of I.mod.kin I.mod.glob d) ⟨.ref C,H,I,rfl,h⟩ q;exact PE.imp (Q0 (Om (cv:=.ref C) b λu r=>r) g o (by rfl) (jt i (jt c yn) l) (by decide) (by decide) l t) (yq.read λn H Q h=>h)
def Ba {m:Ev}{P:Pos}{f:Str->Option Bool}{T:String}(c:Ww X.K f (.type T))(l:X.mg "isinstance"=none)(a:X.mg x=none)(d:bootBuiltins x=some (.type T))(i:zx X xr e m)(g:Gl X "isinstance":=by rfl)(b:Gl X x:=by rfl)(n:x ≠ "__name__":=by decide)(o:yG x:=by decide)
  (j:starEach [e,.Name x P] X.env=(false,eval e X.env)::starEach [.Name x P] X.env:=by rfl)(q:(backTo o7 (starEach [.Name x P] X.env)).any (·.1)=false:=by rfl):
  zx X xr (.Call (.Name "isinstance" p) [e,.Name x P] [] o7) (yq f m):=by
 simp only[qa,NN]at*;exact PE.imp (Q0 (Om (cv:=.ty T) c λu r=>r) g l (by rfl) (jt i (jt (G3 b a d (v:=.ty T) rfl n o) yn) j) (by decide) (by decide) j q) (yq.read λt H Q h=>h)
def Au {m:Ev}{a:Pos}{P:Pos}{pt:Pos}{D:Str}{C:Str}{K:Nat}(t T:Ty)(U:X.mg "isinstance"=none)(n:X.mg D=none)(j:X.mg C=none)(f:bootBuiltins D=some (.type t.nm))(d:bootBuiltins C=some (.type T.nm))(B:zx X xr e m)(z:Gl X "isinstance":=by rfl)(q:Gl X D:=by rfl)(o:Gl X C:=by rfl)
  (i:D ≠ "__name__":=by decide)(r:yG D:=by decide)(g:C ≠ "__name__":=by decide)(J:yG C:=by decide)
  (Z:starEach [.Name D a,.Name C P] X.env=(false,eval (.Name D a) X.env)::starEach [.Name C P] X.env:=by rfl)(u:starEach [.Name C P] X.env=(false,eval (.Name C P) X.env)::starEach [] X.env:=by rfl)
  (I:starEach [e,.Tuple [.Name D a,.Name C P] K pt] X.env=(false,eval e X.env)::starEach [.Tuple [.Name D a,.Name C P] K pt] X.env:=by rfl)(Y:(backTo o7 (starEach [.Tuple [.Name D a,.Name C P] K pt] X.env)).any (·.1)=false:=by rfl):
  zx X xr (.Call (.Name "isinstance" p) [e,.Tuple [.Name D a,.Name C P] K pt] [] o7) (XN t T m):=by
 simp only[qa,NN]at*;exact PE.imp (Q0 D4 z U (by rfl) (jt B (jt (NZ (jt (G3 q n f (v:=.ty t.nm) rfl i r) (jt (G3 o j d (v:=.ty T.nm) rfl g J) yn u) Z)) yn) I) (by decide) (by decide) I Y) λσ H Q ⟨φ,A,ρ,S,N,h⟩=>by
   refine tM.go S N (zY.mp h) λw A1 c H1 v I L x y=>?_;cases E:jM w A1 with
   |none=>rw[E]at I;exact I.elim|some M=>
    rw[E]at I;refine⟨by show 2<=sizeLine;decide,λl b=>⟨v,M,l,rfl,qF.of jY,?_,I c _ _ (L.trans (Le.new b)) (x.lay b) rfl⟩⟩
    exact OJ (x.lay b) (y.mono (Le.new b)) E
def U9 {m:Ev}(p:zx X xr e m)(g:w8 X tg tw)(f:swapsWithSole [tg] e o7.line X.env=pure false:=by rfl)(o:swappedStores [tg] e X.env=pure none:=by rfl)(i:(assignEach [tg] X.env).map (·.2)=[assign tg X.env]:=by rfl):ko X xr (.Assign [tg] e o7) (XO m tw):=by
 simp only[qa,NN]at*;exact PS.imp (Mg p g f o i) λD y H ⟨x,A,j,S,n,h⟩=>by
   refine tM.go S n (zY.mp h) λw u a t v i l d q=>?_;cases E:tw w j with
   |none=>rw[E]at i;exact i.elim|some c=>
    rw[E]at i;exact⟨a,u,j,w,c,d,n.mono l,q,E,λb r=>i a t b l d r⟩
def NG {a:Expr}{b:Expr}{ma:Ev}{mb:Ev}{pt:Pos}{U:Nat}(i j:Nat){y:Str}{P T p:Pos}{Y:Nat}(t:X.calm=true)(C:X.N.Nodup)(B:zx X xr a ma)(u:zx X xr b mb)(r:X.N[i]? =some x:=by rfl)(o:X.N[j]? =some y:=by rfl)(d:i≠j:=by decide)
  (g:X.env.scope.names.lookup x=some .local:=by rfl)(f:X.env.scope.names.lookup y=some .local:=by rfl)
  (hw:swappedStores [.Tuple [.Name x P,.Name y T] U pt] (.Tuple [a,b] Y p) X.env=pure (some [x,y]):=by rfl)
  (n:swapsWithSole [.Tuple [.Name x P,.Name y T] U pt] (.Tuple [a,b] Y p) o7.line X.env=pure false:=by rfl)
  (h1:ji a [b] X:=by rfl)(Z:ji b [] X:=by rfl):
  ko X xr (.Assign [.Tuple [.Name x P,.Name y T] U pt] (.Tuple [a,b] Y p) o7) (ip i j ma mb):=by
 simp only[qa,NN]at*;exact PS.imp (di t C r o d g f (jt B (jt u yn Z) h1) hw n) λD σ H ⟨φ,A,ρ,S,M,h⟩=>by refine tM.go S M (zY.mp h) λw A1 e H1 v h1 l I Q=>?_;refine tM.go I (M.mono l) (qD (zY.mp h1) (λ_ _ z=>z) λ_ _ z=>z.mono l) λK A2 c J v2 Z L E q=>?_;exact⟨v,v2,rfl,Z c J _ (l.trans L) E (((M.mono (l.trans L)).set (Q.mono L)).set q)⟩
end
section
def Pz {a:Expr}{b:Expr}{L:Ev}{M:Ev}(C:zx X xr a L)(P:zx X xr b M)(B:ji b [] X:=by rfl)
  (e:attributeBase a "extend" X.env (eval a X.env)=eval a X.env:=by rfl)
  (w:((backTo oD (starEach [b] X.env)).all (λx=>!x.1)&&(backToKw oD (keywordEach [] X.env)).all (λx=>x.1.isSome)
   && decide ([b].length+([]:cb).length+(if ([]:cb).isEmpty then 0 else 1)<30))=true:=by rfl)(h:(oH.endLine==oD.line)=true:=by rfl):
  zx X xr (.Call (.Attribute a "extend" oH) [b] [] oD) (j4 JG L M):=by
 simp only[qa,NN]at*;exact XJ PySem.F.slot_list_extend (by kernel_rfl) Du DG (λY A H x y u v Q S j q p=>by
   unfold JG at p;cases u with
   |ref n=>
    cases v with
    |ref k=>
     dsimp only at p;cases c:A[n]? with
     |none=>rw[c]at p;exact p.elim|some o=>cases o with
      |lst J=>
       cases E:A[k]? with
       |none=>rw[c,E]at p;exact p.elim|some t=>cases t with
        |lst U=>
         rw[c,E]at p;dsimp only at p
         by_cases d:J.length+U.length<=zX
         ·rw[ai d]at p
          obtain⟨l,I,rfl,N,K,f⟩:=S.lst j c;obtain⟨D,Z,rfl,f2,T,r⟩:=S.lst q E;refine⟨l,D,I,Z,rfl,rfl,K,T,?_,?_⟩
          ·rw[<- f.length,<- r.length]
           have:sizeLine=16777216:=sizeLine_eq
           unfold zX at d;lia
          ·obtain⟨i,g⟩:=S.write (o:=.lst J) (o':=.lst (J++U)) c rfl rfl N (u:=.lst (I++Z)) ⟨I++Z,jY,(f.append r).mono (Le.upd N (λ_ z=>by rw[K]at z;cases z) λ_ _ z=>by rw[K]at z;cases z)⟩
           exact p _ _ _ i g rfl
         ·rw[aj d]at p;exact p.elim
        |_=>rw[c,E]at p;exact p.elim
      |_=>rw[c]at p;cases E:A[k]? with|none=>rw[E]at p;exact p.elim|some _=>rw[E]at p;exact p.elim
    |_=>exact p.elim
   |_=>cases v<;>exact p.elim) C P B e w h
def Eu {m:Ev}{P B:Pos}(n:X.calm=true)(I:X.mg "len"=none)(c:X.mg "set"=none)(o:zx X xr e m)(j:Gl X "len":=by rfl)(d:Gl X "set":=by rfl)(f:ji e [] X:=by rfl)
  (b:starEach [.Call (.Name "set" P) [e] [] B] X.env=(false,eval (.Call (.Name "set" P) [e] [] B) X.env)::starEach [] X.env:=by rfl):
  zx X xr (.Call (.Name "len" p) [.Call (.Name "set" P) [e] [] B] [] o7) (AM m):=by
 simp only[qa,NN]at*;exact PE.imp (Q0 D1 j I (by rfl) (jt (KH (DF n) d c (by rfl) (jt o yn f) (by decide) (by decide) f (by rfl)) yn b) (by decide) (by decide) b (by rfl)) λM H Q ⟨K,A,T,S,D,h⟩=>by
   refine tM.go S D (zY.mp h) λw Z i Y v y L x q=>?_;cases w with
   |tup C=>
    obtain⟨a,U,rfl,t,r⟩:=q;unfold Nm at y;dsimp only at y
    revert y
    cases u:intsOf C with
    |none=>intro y;exact y.elim|some N=>
     intro y;dsimp only at y;have E:=Gx u;subst E;have J:=zF.ints.mp r;subst J
     by_cases z:N.length<=100
     ·rw[ai z]at y
      refine⟨a,N,rfl,t,z,λl g=>⟨l,_,_,rfl,jY,a4 (firstMet_length_le _ _) z,?_⟩⟩;exact y _ _ _ (L.trans (Le.new g)) (x.lay g) rfl
     ·rw[aj z]at y;exact y.elim
   |_=>exact y.elim
def G8 {a:Expr}{b:Expr}{c:Ev}{M:Ev}(H:zx X xr a c)(h:zx X xr b M):zx X xr (.BinOp a .LShift b o7) (zh iu c M):=by simp only[qa,NN]at*;exact ZG dG Wq (Wd ND λ_ _ _ _=>rfl) H h
end
def Ou {a:Expr}{b:Expr}{c:Ev}{M:Ev}(H:zx X xr a c)(h:zx X xr b M):zx X xr (.BinOp a .Mult b o7) (zh JV c M):=by simp only[qa,NN]at*;exact ZG iw iy CU H h
@[irreducible] def J9 (X:Cx)(x:XR)(e:Option Expr)(p:Po):Prop:=Mi.SP X x e p
def iI:@J9=@Mi.SP:=by delta J9;rfl
def JR:J9 X xr none yL:=by simp only[qa,NN,iI]at*;exact PO.imp B8 λb H Q ⟨a,A,c,S,r,h⟩=>h a H .refl S
def JF {m:Ev}(h:zx X xr e m):J9 X xr (some e) (j9 m):=by simp only[qa,NN,iI]at*;exact Mi.N5 h
def g9 {a b:Expr}{c M:Ev}(H:zx X xr a c)(h:zx X xr b M):zx X xr (.BinOp a .FloorDiv b o7) (zh YZ c M):=by simp only[qa,NN]at*;exact ZG Cb Wq (Wd By λ_ _ _ _=>rfl) H h
def JA {m:Ev}{lo q:Option Expr}{P pu:Po}{B:Pos}(he:zx X xr e m)(I:J9 X xr lo P)(C:J9 X xr q pu):zx X xr (.Subscript e (.Slice lo q none B) o7) (yz m P pu):=by
 simp only[qa,NN,iI]at*;exact PE.imp (Bq AR he I C) λσ H Q ⟨φ,A,ρ,S,re,h⟩=>by
   refine tM.go S re (zY.mp h) λw A1 g H1 v h1 L U y=>?_;refine⟨g,A1,ρ,U,re.mono L,qD (zY.mp h1) (λl A2 h2 f H2 c T=>?_) λ_ _ z=>z.mono L⟩;refine⟨f,A2,ρ,T,(re.mono L).mono c,qD (zY.mp h2) (λu Z b d Y j t=>?_) λ_ _ z=>z.mono (L.trans c)⟩;have i:=(L.trans c).trans j;cases w with
   |ref n=>
    dsimp only at b;cases E:Z[n]? with
    |none=>rw[E]at b;exact b.elim|some o=>cases o with
     |lst ws=>
      rw[E]at b;dsimp only at b;obtain⟨a,vs,rfl,J,M,r⟩:=t.lst ((y.mono c).mono j) E;have hlen:ws.length=vs.length:=r.length;refine⟨a,vs,rfl,q9.of M,λp D=>?_⟩;have x:zF X.K d Y (Y8 ws l u) (Y6 vs l u):=by unfold Y8 Y6;rw[hlen];exact zF.take _ (zF.drop _ r)
      obtain⟨a1,a2,N⟩:=Q8 t D x;exact b _ _ _ (i.trans a1) a2 N
     |_=>rw[E]at b;exact b.elim
   |_=>exact b.elim
section
variable {a b:Expr}{ma mb:Ev}
def PD (f:zx X xr a ma)(z:zx X xr b mb)(d:ji b [] X:=by rfl)
  (e:attributeBase a "count" X.env (eval a X.env)=eval a X.env:=by rfl)
  (w:((backTo oD (starEach [b] X.env)).all (λx=>!x.1)&&(backToKw oD (keywordEach [] X.env)).all (λx=>x.1.isSome)
   && decide ([b].length+([]:cb).length+(if ([]:cb).isEmpty then 0 else 1)<30))=true:=by rfl)(h:(oH.endLine==oD.line)=true:=by rfl):
  zx X xr (.Call (.Attribute a "count" oH) [b] [] oD) (j4 YJ ma mb):=by
 simp only[qa,NN]at*;exact XJ PySem.F.slot_list_count PySem.F.type_list_count EU DH (λj A H x y u v Q S c q p=>by
   unfold YJ at p;cases u with
   |ref n=>
    dsimp only at p;cases E:A[n]? with
    |none=>rw[E]at p;exact p.elim|some o=>cases o with
     |lst r=>
      rw[E]at p;dsimp only at p
      by_cases g:(yA v&&r.all yA)=true
      ·rw[ai g]at p
       rw[ak]at g;obtain⟨l,rfl,D⟩:=c;obtain⟨L,i,t,C,B⟩:=S.ob n _ E;rw[D]at i;cases i;obtain⟨c1,c2⟩:=Ui q g.1 B g.2;refine⟨l,t,y,rfl,rfl,q9.of C,KG q g.1,c1,?_⟩;rw[c2]
       have:=p j H _ .refl S rfl
       rw[G9]at this;simpa using this
      ·rw[aj g]at p;exact p.elim
     |_=>rw[E]at p;exact p.elim
   |_=>exact p.elim) f z d e w h
def Bo (H:zx X xr a ma)(h:zx X xr b mb):zx X xr (.BinOp a .BitAnd b o7) (zh iD ma mb):=by simp only[qa,NN,iI]at*;exact ZG dJ QC (Qt λ_ _ _ _=>rfl) H h
def iJ (c:zx X xr a ma)(H:zx X xr b mb):zx X xr (.BinOp a .RShift b o7) (zh iE ma mb):=by simp only[qa,NN,iI]at*;exact ZG dH Wq (Wd (λ_ _ h=>of_decide_eq_true h) λ_ _ _ _=>rfl) c H
end
section
def Cd {C:Expr}{m M:Ev}{P:Pos}(K:zx X xr e m)(g:zx X xr C M):zx X xr (.Subscript e (.Slice none none (some C) P) o7) (Se m M):=by
 simp only[qa,NN,iI]at*;exact PE.imp (B6 K (Mi.N5 g)) λσ H Q ⟨Z,A,I,S,D,h⟩=>by
   refine tM.go S D (zY.mp h) λw Y b H1 v N l x q=>?_;refine⟨b,Y,I,x,D.mono l,qD (zY.mp N) (λo U B f y L d=>?_) λ_ _ z=>z.mono l⟩;cases w with
   |ref n=>
    dsimp only at B;cases E:U[n]? with
    |none=>rw[E]at B;exact B.elim|some ob=>cases ob with
     |lst ws=>
      rw[E]at B;dsimp only at B
      by_cases c:o=some (-1)
      ·rw[ai c]at B
       obtain⟨a,J,rfl,j,t,r⟩:=d.lst (q.mono L) E;refine⟨c,a,J,rfl,q9.of t,λp i=>?_⟩;obtain⟨T,a2,u⟩:=Q8 d i (zF.rev r);exact B _ _ _ ((l.trans L).trans T) a2 u
      ·rw[aj c]at B;exact B.elim
     |_=>rw[E]at B;exact B.elim
   |_=>exact B.elim
def P5 {M:Ev}(z:Nat)(y:bW)(d:X.calm=true)(S:gH X sc)(p:Z5 X.N N sc z y=true)(C:Qs X)(E:kN X xr tg o8 mi)
  (n:∀s H fp,Qs (jI X N sc s H fp yh)->w8 (jI X N sc s H fp yh) tg tw/\Zi (jI X N sc s H fp yh) ifs M/\gT (jI X N sc s H fp yh) oI (⟨tg,o8,ifs,0⟩::gs) sc o7 0 em)
  (i:∀g',gs[0]? =some g'->g'.is_async=0:=by intro _ h;cases h<;>rfl)
  (c:∀x,foldedSetIterable o8 X.env x=pure x:=by intro _;rfl):ZS X xr (.ListComp oI (⟨tg,o8,ifs,0⟩::gs) sc o7) (qy z y mi tw M em):=by
 simp only[qa,NN,iI]at*;intro P s A H Q I h;rw[eval_ListComp];refine UU (use:=none) (g:=tG X.K tw) (ti:=tT X.K jX M) (tm:=tE X.K em) d S p i E (λs H fp t w=>n s H fp (DN S C t)) I (qy.read A H Q h) (λD C B v m u q J T L r l j=>?_) c;exact⟨m,J,λU a=>⟨.ref D,v,u.turned (t':=B.toks) (λb o f e=>(a.2 b f).trans e) T L (.inr r) l j,rfl,q⟩⟩
variable {K:Frag}{st:Stmt}{c:Addr}{fd:FuncData}{ps:bX}{k:Nat}{m:Ex}
def iK (F:wm K x x st f fd)(n:nsIn K mainGlobals x=some (some (.ref f)))(t:tabIn K x=some (c,Pt))(S:wy N ps (qj st))
  (h:∀(A:Around)(o:b8)(s:Shared)(H:Hp)(E:XK),jd k (A.deeper (envOfC x (qj st) s.heap.objs.size f (.ref c)))->yR (kg kO P w K mg base N x (qj st) f (.ref c) A o s H E).nox jX (j6 st) m):
  yt P w K mg base kO (k+1) f fd ps (Zq K ps.length (qz N.length m)):=by
 simp only[qa,NN,iI]at*;exact Mi.Lu F n t S h
def iM (F:wm K x x st f fd)(n:nsIn K mainGlobals x=some (some (.ref f)))(t:tabIn K x=some (c,Pt))(a:mg x=some (.ref f))(S:wy N ps (qj st))
  (b:∀(kV d p:Value)(e:cf)(C ct:Value)(u:bS),u.length=ps.length->bindArgs (fnOf x x (Za st) (j6 st) (qj st) .none kV d p e C ct) ⟨u,[]⟩=pure (ps.zip u))
  (h:∀(A:Around)(o:b8)(s:Shared)(H:Hp)(E:XK),jd k (A.deeper (envOfC x (qj st) s.heap.objs.size f (.ref c)))->yR (kg kO P w K mg base N x (qj st) f (.ref c) A o s H E).nox jX (j6 st) m):
  qR P w K mg base (k+1) x ps.length (qz N.length m):=by
 simp only[qa,NN,iI]at*;exact⟨f,fd,ps,Mi.Lu F n t S h,a,F.kp,F.binds b⟩
end
def E5 {m:Ev}(B:X.calm=true)(J:X.mg "sorted"=none)(j:zx X xr e m)(g:Gl X "sorted":=by rfl)(c:ji e [] X:=by rfl):zx X xr (.Call (.Name "sorted" p) [e] [] o7) (TH m):=by
 simp only[qa,NN]at*;exact PE.imp (Q0 FR g J (by rfl) (jt j yn c) (by decide) (by decide) c (by rfl)) λY H Q ⟨U,A,Z,S,I,h⟩=>by
   refine tM.go S I (zY.mp h) λw T b H1 v C L d q=>?_;cases w with
   |ref n=>
    unfold Xn at C;dsimp only at C;cases E:T[n]? with
    |none=>rw[E]at C;exact C.elim|some u=>cases u with
     |lst D=>
      rw[E]at C;dsimp only at C;obtain⟨P,y,rfl,o,x,r⟩:=d.lst q E;cases i:QF D with
      |none=>rw[i]at C;exact C.elim|some K=>
       rw[i]at C;dsimp only at C;obtain⟨t,N⟩:=Oo i;subst t
       by_cases a:K.length<64/\WA K=true
       ·rw[ai a]at C
        refine⟨P,y,K,b,rfl,q9.of x,r,N,a,λl f=>?_⟩;obtain⟨M,a2,z⟩:=Q8 d f r;exact C _ _ _ (L.trans M) a2 z
       ·rw[aj a]at C;exact C.elim
     |_=>rw[E]at C;exact C.elim
   |_=>exact C.elim
section
variable {y:Str}{k:Nat}{g:Fn}{hp0:Heap}
def GA {t:Lm}{j:Nat}{q:Str}{c:Addr}{P:Pos}{RF:Nat->List W->Hx->R W}(C:Qs X)(hl:Y0 X.base X.prog X.w X.K X.mg j q t)(L:Wv X.N X.env.scope t=true)
  (hR:∀base PG,(∀k,Jf X.prog X.w X.K X.mg base (j+1) (PG k) (gr [t] k))->qR X.prog X.w X.K X.mg base kk x 1 (QK PG RF))(hr:jd kk X.A)
  (hB:BMain X.mg X.base)(f:X.env.code=.ref c)(hC:CodeHd X.base c Pt)(d:X.env.qual ++ "<lambda>"=q)(u:defaultsOf t.params X.env=([],[]))(hg:Gl X x:=by rfl)(hdb:yG x:=by decide)
  (he:starEach [.Lambda t.params t.body t.scope P] X.env=(false,eval (.Lambda t.params t.body t.scope P) X.env)::starEach [] X.env:=by rfl)(Y:wR o7 [] X:=by rfl):
  zx X jX (.Call (.Name x p) [.Lambda t.params t.body t.scope P] [] o7) (wZ n q Pt t.idx (RF 0)):=by
 simp only[qa,NN,iI]at*;intro o6 s σ H Q I ⟨φ,A,ρ,S,re,h⟩;unfold wZ at h;cases E:A[n]? with
 |none=>rw[E]at h;exact h.elim|some o=>cases o with
  |tab q' P'=>
   rw[E]at h;dsimp only at h
   by_cases hc:q'=q/\P'=Pt
   ·rw[ai hc]at h
    cases ec:QM t.idx ρ with
    |none=>rw[ec]at h;exact h.elim|some ws=>
     rw[ec]at h;dsimp only at h;obtain⟨fa,fd,ps,F,hm,hk,hb⟩:=hR _ _ (PQ (q:=q) I C hl (G5 L));refine wpAny_Call_Name_kw (YF I hg hm ?_ hdb);have hS:SA X jX [.Lambda t.params t.body t.scope P] (zi (QN n q Pt 0 (gX X.env q [t] 0)) zr):=Mi.KW (NF (ls:=[t]) rfl L hB f hC d u) Mi.Xe;refine callWith_K (h₀:=X.base) I.ok.mod.kin hk (zU (hS o7 o6 s σ H (λvs H1=>∃b,Le X.K φ H b H1/\zL X.K b A H1/\zF X.K b H1 [.clo 0 ws (gA X.env q [t] σ 0)] vs) I ⟨φ,A,ρ,S,re,?_⟩) λus s1 ⟨vs,H1,B,r1,b,l,S1,D⟩=>⟨B.kIn,?_⟩) he Y
     ·have em:zi (QN n q Pt 0 (gX X.env q [t] 0)) zr ρ A=.ok [.clo 0 [] (gX X.env q [t] 0)] A:=by
       unfold zi QN;rw[E];dsimp only;rw[ai hc]
       rfl
      rw[em];intro b H1 vs l S1 q1;refine⟨b,l,S1,?_⟩;obtain⟨v,r',rfl,hv,U⟩:=q1;obtain rfl:r'=[]:=U;obtain⟨a,ob,u0,c0,oc,uc,vs0,rfl,g1,g2,⟨t',et',gp⟩,_⟩:=hv;cases et';obtain⟨M,cv,D⟩:=Us (re.mono l) ec;exact .one ⟨a,ob,u0,c0,oc,uc,M,rfl,g1,g2,⟨t,rfl,gp,cv⟩,D⟩
     ·have e0:=(KL B C).1
      obtain⟨fa',fd',T,F',i,hk',hb'⟩:=hR _ _ (PQ (q:=q) B C hl (G5 L));rw[hm]at i;cases i;have g:Zq X.K 1 (QK (gA X.env q [t] σ) RF) vs H1 Q E0:=by
       refine⟨by rw[<- D.length];rfl,b,A,[.clo 0 ws (gA X.env q [t] σ 0)],S1,D,?_⟩
       unfold QK;dsimp only;rw[ai rfl];exact qD h (λ_ _ z=>z.mono l) λy A2 z J H2 l2 S2=>((z.mono l) J H2 l2 S2).elim
      have Z:=F'.len _ _ _ _ g;have hu:us.length=T.length:=by rw[<- r1.length];exact Z
      refine wpAny_call (codeAny_mono (F'.run X.A X.stack s1 H1 ⟨[]++us,[]⟩ us vs Q E0 hr e0 ?_ r1 g) λr s2 d=>?_)
      ·have:=hb' s1 us B.kIn (by rw[aX];exact hu)
       rw[aX]at this;exact this
      ·cases r with
       |error e=>exact False.elim d|ok fl=>
        cases fl with|ret u1=>exact B.after d|next=>exact False.elim d|brk=>exact False.elim d|cont=>exact False.elim d
   ·rw[aj hc]at h;exact h.elim
  |_=>rw[E]at h;exact h.elim
def P4 (xo:wO X hp0 xr)(L:Qv X.prog X.w X.K X.mg X.base k PK g)(hr:jd k X.A)(ha:gy X xr [e] mr)(hl:ZI mr 1)(hi:X.N[i]? =some y:=by rfl)(P:WO X.env.scope y:=by first|exact Or.inl rfl|exact Or.inr (Or.inl rfl)|exact Or.inr (Or.inr rfl))
  (hdb:yG y:=by decide)(hcd:(y==("__classdict__":Str))=false:=by decide)(he:ji e [] X:=by rfl)(U:wR o7 [] X:=by rfl):
  zx X xr (.Call (.Name y p) [e] [] o7) (Q5 i PK g mr):=by
 simp only[qa,NN,iI]at*;intro o6 s σ H Q I ⟨φ,A,ρ,S,re,h⟩;unfold Q5 at h;cases E:ρ[i]? with
 |none=>rw[E]at h;exact h.elim|some ow=>cases ow with
  |none=>rw[E]at h;exact h.elim|some w0=>cases w0 with
   |clo k0 D P0=>
    rw[E]at h;dsimp only at h
    by_cases hP:P0=PK
    ·rw[ai hP]at h
     subst hP;obtain⟨v,M,a,ob,u,c,oc,uc,d,rfl,h1,h2,Y,J⟩:=re.get i _ E;obtain⟨⟨fd0,hfd⟩,fd,ps,F1,n⟩:=L a ob u c oc uc d Y;have ho:s.heap.get? a=some ob:=(show qZ X.prog X.w H s.heap a (.frz ob u) from I.hok a _ h1).1
     refine wpAny_Call_Name_kw (zU (NK hi P hdb hcd o6 s σ H (λv' H'=>v'=.ref a/\H'=H) I ⟨_,M,rfl,rfl⟩) λu0 s0 ⟨v0,H0,I0,r0,e0,e1⟩=>?_);subst e0;subst e1;obtain rfl:u0=Value.ref a:=r0;have f:∀{s:Shared}{H:Hp},Inv X o6 σ H s->H a=some (.frz ob u)->Frag.In [(a,ob)] s.heap:=λ {s H} I h1 b o e=>by
      rw[bH]at e
      by_cases n:b=a
      ·subst n
       simp at e;subst e;exact(show qZ X.prog X.w H s.heap b (.frz ob u) from I.hok b _ h1).1
      ·have:(b==a)=false:=by simpa using n
       rw[this]at e;cases e
     have Z:keepIn [(a,ob)] (.ref a)=true:=by
      unfold keepIn;obtain⟨o1,o2,o3,o4⟩:=ob;cases (show o3=_ from hfd)
      simp[bH]
     have h':=zY.mp h;refine callWith_K (K:=[(a,ob)]) (h₀:=s0.heap) (f I0 h1) Z (zU (ha o7 o6 s0 σ H0 (λvs H1=>So X.K a ob u c oc uc d g vs H1 Q (Rq X.K xr)) I0 ⟨φ,A,ρ,S,re,?_⟩) λus s1 ⟨vs,H1,x,r,q⟩=>?_) he U
     ·cases t:mr ρ A with
      |ok ws A1=>
       rw[t]at h';intro C H1 vs l S1 q1;have P:vs.length=1:=by rw[<- q1.length];exact hl ρ A ws A1 t
       refine⟨P,l.fz _ _ _ h1,l.fz _ _ _ h2,C,A1,ws++D,S1,q1.append (zF.mono J l),qD h' (λ_ _ z=>z.mono l) λy A2 z B H2 l2 S2 Ca hC=>?_⟩;exact⟨y,Ca,rfl,hC,z B H2 (l.trans l2) S2⟩
      |exc y A1=>rw[t]at h';exact h'|bad=>rw[t]at h';exact h'
     ·have T:us.length=1:=by rw[<- r.length];cases q with|mk e=>exact e
      refine⟨f x (by cases q with|mk _ z=>exact z),?_⟩
      have hln:=F1.len _ _ _ _ q;refine wpAny_call (codeAny_mono (F1.run X.A X.stack s1 H1 ⟨[]++us,[]⟩ us vs Q (Rq X.K xr) hr x.env0 (n s1 us T) r q) λr s2 j=>?_);cases r with
      |error e=>exact xo.passes o6 σ H1 s1 e s2 x j|ok fl=>
       cases fl with|ret u1=>exact x.after j|next=>exact False.elim j|brk=>exact False.elim j|cont=>exact False.elim j
    ·rw[aj hP]at h;exact h.elim
   |_=>rw[E]at h;exact h.elim
def Dc {t:Lm}{j:Nat}{q y:Str}{c:Addr}{P p3:Pos}{E:Expr}{m1:Ev}{g:W->List W->Hx->R W}(C:Qs X)(hl:Ss X.prog X.w X.K X.mg j q y t)(L:Wv X.N X.env.scope t=true)(h1:zx X jX E m1)
  (hN:∀base,gn X.base base->∀PK,(∀b,gn base b->Qv X.prog X.w X.K X.mg b (j+1) PK λws A=>t.m (ws.map some) A)->qR X.prog X.w X.K X.mg base kk x 2 (fN PK))(hG:∀PK w ws A,Hand fN g PK w ws A)(hr:jd kk X.A)
  (hB:BMain X.mg X.base)(u:X.env.code=.ref c)(hC:CodeHd X.base c Pt)(l:X.env.qual ++ "<lambda>"=q)(U:defaultsOf t.params X.env=([],[]))(hg:Gl X x:=by rfl)(hdb:yG x:=by decide)
  (hs0:starEach [.Lambda t.params t.body t.scope P] X.env=(false,eval (.Lambda t.params t.body t.scope P) X.env)::starEach [] X.env:=by rfl)
  (hs1:starEach [.List [.Lambda t.params t.body t.scope P] p3] X.env=(false,eval (.List [.Lambda t.params t.body t.scope P] p3) X.env)::starEach [] X.env:=by rfl)
  (he:starEach [E,.List [.Lambda t.params t.body t.scope P] p3] X.env=(false,eval E X.env)::starEach [.List [.Lambda t.params t.body t.scope P] p3] X.env:=by rfl)(hpl:(backTo o7 (starEach [.List [.Lambda t.params t.body t.scope P] p3] X.env)).any (·.1)=false:=by rfl):
  zx X jX (.Call (.Name x p) [E,.List [.Lambda t.params t.body t.scope P] p3] [] o7) (Q9 n q Pt t.idx m1 g):=by
 simp only[qa,NN,iI]at*;intro o6 s σ H Q I ⟨φ,A,ρ,S,re,h⟩;unfold Q9 at h;have hix:=G5 L;have J:∀{H' s'}(I':Inv X o6 σ H' s')(b:Heap),gn (gM X.base s'.heap X.env.cells) b->Qv X.prog X.w X.K X.mg b (j+1) (gA X.env q [t] σ 0) λws A=>t.m (ws.map some) A:=λ {H' s'} I' b sb=>
  iG hl λvs hvs=>(OP (base:=gM X.base s'.heap X.env.cells) I' (λy cc v e ⟨o,ho,hd⟩=>⟨o,Pr e ho,hd⟩) hix hvs).sub sb
 obtain⟨fa,fd,ps,F,hm,hk,hb⟩:=hN _ (KL I C).2 _ (J I);refine wpAny_Call_Name_kw (YF I hg hm ?_ hdb);have hS:SA X jX [E,.List [.Lambda t.params t.body t.scope P] p3] (zi m1 (zi (qA (zi (QN n q Pt 0 (gX X.env q [t] 0)) zr)) zr)):=Mi.KW h1 (Mi.KW (Mi.Nx (Mi.KW (NF (ls:=[t]) rfl L hB u hC l U) Mi.Xe hs0) (zA zO)) Mi.Xe hs1) he;refine callWith_K (h₀:=X.base) I.ok.mod.kin hk (zU (hS o7 o6 s σ H (λvs H1=>∃d A1 w ws,Le X.K φ H d H1/\zL X.K d (A1++[.lst [.clo 0 ws (gA X.env q [t] σ 0)]]) H1/\zF X.K d H1 [w,.ref A1.length] vs/\(g w ws A1).post (PB X.K φ H Q) (EB X.K φ H jX)) I ⟨φ,A,ρ,S,re,?_⟩) λus s1 ⟨vs,H1,D,r1,d,A1,w,ws,Z,S1,Y,hp⟩=>⟨D.kIn,?_⟩) he hpl
 ·have h':=zY.mp h
  unfold zi;refine zY.mpr (qD h' (λw A1 h2=>?_) λ_ _ z=>z);cases eA:A1[n]? with
  |none=>rw[eA]at h2;exact h2.elim|some o=>cases o with
   |tab q' P'=>
    rw[eA]at h2;dsimp only at h2
    by_cases hc:q'=q/\P'=Pt
    ·rw[ai hc]at h2
     cases ec:QM t.idx ρ with
     |none=>rw[ec]at h2;exact h2.elim|some ws=>
      rw[ec]at h2;dsimp only at h2;have em:QN n q Pt 0 (gX X.env q [t] 0) ρ A1=.ok (.clo 0 [] (gX X.env q [t] 0)) A1:=by unfold QN;rw[eA];exact ai hc
      have e2:=zu (jx (zu em zJ)) (zJ (ρ:=ρ));unfold zi at e2;rw[e2,zK];intro d H1 vs Z S1 q1;have en:(A1++[O.lst [.clo 0 [] (gX X.env q [t] 0)]])[A1.length]? =some (.lst [.clo 0 [] (gX X.env q [t] 0)]):=List.getElem?_concat_length;have S2:=S1.tell (ws:=[.clo 0 ws (gA X.env q [t] σ 0)]) en λvs ⟨v,r',ev,hv,f⟩=>by subst ev;obtain rfl:r'=[]:=f;obtain⟨a,ob,u0,c0,oc,uc,vs0,rfl,g1,g2,⟨t',et',gp⟩,_⟩:=hv;cases et';obtain⟨vs1,cv,Y⟩:=Us (re.mono Z) ec;exact .one ⟨a,ob,u0,c0,oc,uc,vs1,rfl,g1,g2,⟨t,rfl,gp,cv⟩,Y⟩
      rw[bE _ _ (ao _),sub_self]at S2;exact⟨d,A1,w,ws,Z,S2,q1,h2⟩
    ·rw[aj hc]at h2;exact h2.elim
   |_=>rw[eA]at h2;exact h2.elim
 ·have e0:=(KL D C).1
  obtain⟨fa',fd',ps',F',T,hk',hb'⟩:=hN _ (KL D C).2 _ (J D);rw[hm]at T;cases T;have M:Zq X.K 2 (fN (gA X.env q [t] σ 0)) vs H1 Q E0:=by
   refine⟨by rw[<- Y.length];rfl,d,A1++[.lst [.clo 0 ws (gA X.env q [t] σ 0)]],[w,.ref A1.length],S1,Y,?_⟩
   rcases hG (gA X.env q [t] σ 0) w ws A1 with e|⟨v,B,n',us',ws2,E,nr,e2,a1,nr2,b1,b2⟩
   ·rw[e]at hp;exact hp.elim
   ·rw[e2]at hp
    rw[E];intro φ2 H2 y l2 S3 r3;have la:n'<A1.length:=(cu.mp a1).1;obtain⟨S4,l4⟩:=S1.forget S3 l2 (n:=n') (us:=us') (ws2:=ws2) ((ah la).trans a1) (λi hi hn=>b2 i (by simpa using hi) hn) b1 nr2
    have eL:((A1++[O.lst [.clo 0 ws (gA X.env q [t] σ 0)]]).set n' (.lst ws2))[A1.length]? =some (.lst [.clo 0 ws (gA X.env q [t] σ 0)]):=by
     rw[aw (by lia)]
     exact List.getElem?_concat_length
    have S5:=S4.tell (ws:=[.clo 0 [] PJ]) eL λvs ⟨v,r',ev,hv,f⟩=>by subst ev;obtain rfl:r'=[]:=f;obtain⟨a,ob,u0,c0,oc,uc,vs0,rfl,g1,g2,_,_⟩:=hv;exact .one ⟨a,ob,u0,c0,oc,uc,[],rfl,g1,g2,trivial,.nil⟩
    rw[List.set_comm _ _ (by lia),bE _ _ (ao _),sub_self]at S5
    exact hp d H2 y (Z.trans l4) S5 (RV.nrm (λ_ _ t=>t) (λ_ _ _ t=>t) nr r3)
  have hln:=F'.len _ _ _ _ M;have hu:us.length=ps'.length:=by rw[<- r1.length];exact hln
  refine wpAny_call (codeAny_mono (F'.run X.A X.stack s1 H1 ⟨[]++us,[]⟩ us vs Q E0 hr e0 ?_ r1 M) λr s2 l=>?_)
  ·have:=hb' s1 us D.kIn (by rw[aX];exact hu)
   rw[aX]at this;exact this
  ·cases r with
   |error e=>exact False.elim l|ok fl=>
    cases fl with|ret u1=>exact D.after l|next=>exact False.elim l|brk=>exact False.elim l|cont=>exact False.elim l
end
def qR.up {K:Frag}{j k:Nat}{f:Fn}(F:qR P w K mg base j x n f)(h:j<=k:=by decide):qR P w K mg base k x n f:=F.mono h
def yw.up {K:Frag}{j k:Nat}{f:Fn}(F:yw P w K mg base j x n f)(h:j<=k:=by decide):yw P w K mg base k x n f:=F.mono h
section
variable {C:List Value->Prop}
theorem Vp (h:∀a,C [a]):∀us:bS,us.length=1->C us
 |[a],_=>h a
theorem Km (h:∀a b,C [a,b]):∀us:bS,us.length=2->C us
 |[a,b],_=>h a b
theorem Ro (h:∀a b c,C [a,b,c]):∀us:bS,us.length=3->C us
 |[a,b,c],_=>h a b c
end
def kf {l:bX}(h:decide l.Nodup=true:=by kernel_rfl):l.Nodup:=of_decide_eq_true h
def L4 (N P:bX)(S:Scope):Bool:=decide (S.kind=.function)&&(!S.isCoroutine&&(!S.isGenerator&&(decide N.Nodup&&(decide (N.take P.length=P)&&(P.all (λx=>decide (S.names.lookup x=some .local) || decide (S.names.lookup x=some .cell))&&S.names.all λy=>!decide (y.2=.free))))))
def Ya {P:bX}(h:L4 N P sc=true):wy N P sc:=by unfold L4 at h;simp only[ak,aq,not_eq_true',aY,a3,decide_eq_false_iff_not]at h;obtain⟨g,f,e,d,c,b,a⟩:=h;exact⟨g,f,e,d,c,b,λy H=>a y H⟩
section
def JI {M:Ev}(l:Nat)(C:bW)(w:kN X xr tg o8 mi)
  (n:∀s H fp,w8 (jI X N sc s H fp yh) tg tw/\Zi (jI X N sc s H fp yh) ifs M/\gT (jI X N sc s H fp yh) oI (⟨tg,o8,ifs,0⟩::gs) sc o7 0 em)
  (c:X.calm=true:=by rfl)(S:gH X sc:=by exact cps (by kernel_rfl))(p:Z5 X.N N sc l C=true:=by kernel_rfl)
  (b:∀g',gs[0]? =some g'->g'.is_async=0:=by intro _ h;cases h<;>rfl)
  (a:∀x,foldedSetIterable o8 X.env x=pure x:=by intro _;rfl):ZS X xr (.ListComp oI (⟨tg,o8,ifs,0⟩::gs) sc o7) (qy l C mi tw M em):=Ct l C c S p w n b a
def wg {d:Nat}(a:zx X jX oI me)(h:∀e s,X.xe e s->False:=by exactλ_ _ z=>z)(H:gens[d+1]? =none:=by rfl):gT X oI gens sc o7 d (qe me):=AK h a H
end
open PySem L2
abbrev zH:Ev:=zS 0
abbrev zG:Ev:=zS 1
abbrev zQ:Ev:=zS 2
abbrev qv:Ev:=zS 3
abbrev qw:Ev:=zS 4
abbrev jN:Ev:=zS 5
abbrev qL:Ev:=zS 6
abbrev wI:Ev:=zS 7
abbrev yS:Ev:=zS 8
abbrev Qe:Ev:=zS 9
abbrev Y5:Ev:=zS 10
abbrev Lf:Ev:=zS 11
abbrev Jj:Ev:=zS 12
abbrev qG:Ev:=zW (.int 0)
abbrev qT:Ev:=zW (.int 1)
abbrev Jn:Ev:=zW (.int 2)
abbrev WR:Ev:=zW (.int 4)
abbrev WJ:Ev:=zW (.int 5)
abbrev QR:Ev:=zW (.int 7)
abbrev WU:Ev:=zW (.int 8)
abbrev Rv:Ev:=zW (.int 9)
abbrev iN:Ev:=zW (.int 10)
abbrev qH:Ev:=zW (.bl true)
abbrev iP:Ev:=zW (.bl false)
abbrev gU:Ev:=zW .non
abbrev yT:Ex:=zy (wG iP) zV
def yK (S:Scope):bX:=(S.names.filter λp=>p.2==.local || p.2==.cell).map (·.1)
def Rt (N:bX)(x:Str)(c:bW):bX:=x::c.map λi=>N.getD i Str.empty
def LS (N:bX)(S:Scope)(i:Nat)(x:Str):Bool:=N[i]?==some x&&((S.names.lookup x==some .local || (S.names.lookup x==some .cell || S.names.lookup x==some .free))&&(!(x==("__debug__":Str))&&!(x==("__classdict__":Str))))
def LW (N:bX)(S:Scope)(fn:Str->Bool)(i:Nat)(x:Str):Bool:=N[i]?==some x&&((S.names.lookup x==some .local || S.names.lookup x==some .cell)&&(fn x || S.names.lookup x==some .local))
def zc (i:Nat)(h:LS X.N X.env.scope i x=true:=by kernel_rfl):zx X xr (.Name x o7) (zS i):=by unfold LS at h;simp only[ak,a3,aL,not_eq_true']at h;exact AS i h.1 h.2.1 h.2.2.1 h.2.2.2
def qc {p:Pos}{m:Ev}(i:Nat)(a:X.N.Nodup)(b:zx X xr e m)(h:LW X.N X.env.scope X.fn i x=true:=by kernel_rfl)(H:swapsWith e (some (.Name x p)) o7.line X.env=pure false:=by rfl):ko X xr (.Assign [.Name x p] e o7) (qd i m):=by unfold LW at h;simp only[ak,a3,aL]at h;exact B4 i a b h.1 h.2.1 H h.2.2
section
def jG (C:bW)(w:kN X xr (.Name x p) o8 mi)(e:∀s H fp,zx (jI X (Rt X.N x C) sc s H fp yh) jX oI me)
  (d:X.calm=true:=by rfl)(S:gH X sc:=by exact cps (by kernel_rfl))(a:Z5 X.N (Rt X.N x C) sc 1 C=true:=by kernel_rfl)(n:(Rt X.N x C).Nodup:=by exact kf (by kernel_rfl))(b:Loc (relabel sc X.env) x:=by first|exact Or.inl rfl|exact Or.inr rfl)(f:(sc.names.lookup x==some .local || sc.names.lookup x==some .cell)=true:=by rfl)
  (c:∀y,foldedSetIterable o8 X.env y=pure y:=by intro _;rfl):ZS X xr (.ListComp oI [⟨.Name x p,o8,[],0⟩] sc o7) (qy 1 C mi (zM 0) qH (qe me)):=
 JI 1 C w (λs H fp=>⟨ja 0 n rfl b (.inl f),wu,wg (e s H fp)⟩) d S a (by intro _ h;cases h) c
end
def XT.toD {D:Heap}{K:Frag}{j:Nat}{q:Str}{t:Lm}(h:XT P w K mg j q t):Y0 D P w K mg j q t:=⟨h.sc,h.bind,λb cl a c A o s H E _=>h.body b cl a c A o s H E⟩
end Mi
namespace G
open PySem L2 Mi
noncomputable def top (i:Nat):Stmt:=PySem.Challenge.pw_nearkinds_k32_mixes_by_their_worths.main.body.getD i (.Pass ⟨0,0,0,0⟩)
structure Bu (mg:b0):Prop where
 FH:mg "ValueError"=none
 YV:mg "all"=none
 zdv:mg "any"=none
 Xl:mg "bool"=none
 Js:mg "enumerate"=none
 Wu:mg "int"=none
 jE:mg "isinstance"=none
 qK:mg "len"=none
 Wh:mg "list"=none
 JW:mg "max"=none
 MW:mg "min"=none
 qX:mg "range"=none
 zeu:mg "set"=none
 BJ:mg "sorted"=none
 Wl:mg "sum"=none
 jm:mg "tuple"=none
 JS:mg "zip"=none
 Hj:∃t,mg "MOST_PLACES"=some (.int 8 t)
abbrev jU:bX:=["NoTable","NotSteady","NotWhole","NoNumbers"]
abbrev GB:bX:=["NoTable","NotSteady","NoPlace","NoKind","NoMix","NoNumber","NoLot","NoKinds","NoPaper","NoParting","NoClosed","TooMany","NoText","NoLine","NoDeed","NoWeights","NotWhole","NoNumbers"]
def jw {K:Frag}(R:GB.all (Q6 K jU)=true)(h:GB.contains x=true:=by decide +kernel):Q6 K jU x=true:=cy.mp R x (List.contains_iff_mem.mp h)
def Gy {l:List (Str×NameKind)}(h:(l.all λy=>!(y.2==.cell))=true:=by kernel_rfl):∀y∈l,y.2≠.cell:=λy H e=>by have q:=cy.mp h y H;rw[e]at q;cases q
def yE {m:Ev}(h:zx X xr e m):SE X xr e m:=by rw[Xh]at h;exact h
abbrev Uh:Stmt:=top 69
def FQ:wy ["_law_found","_law_due_here"] ["_law_found","_law_due_here"] (qj Uh):=Ya (by kernel_rfl)
def Zy (Q:Fn):Ex:=zy (jB (XN .tup .lst zG) (zy (jB (ZR (zh je (gC .tup zH) (gC .tup zG)) (zh je (gC .lst zH) (gC .lst zG))) yT zV) (zy (jB (zh je (mQ qf (zN zH)) (mQ qf (zN zG))) yT zV) (zy (wG (mQ Y9 (qy 2 [] (kI zH zG) (jH 0 1) qH (qe (zP Q (zi zH (zi zG zr))))))) zV))) zV) (zy (wG (wF (zh yi zH zG) (zh yi (gC .bl zH) (gC .bl zG)))) zV)
def Gf {K:Frag}{k:Nat}(T:Bu mg){fd:FuncData}(F:wm K "_law_same" "_law_same" Uh f fd)(a:mg "_law_same"=some (.ref f)){Q:Fn}(Qj:qR P w K mg base k "_law_same" 2 Q):qR P w K mg base (k+1) "_law_same" 2 (qz 2 (Zy Q)):=
 SH F a FQ (λ_ _ _ _ _ _=>Km λ_ _=>rfl) λc A o s H E h=>zq (jV (wz (Au .tup .lst T.jE T.jm T.Wh (by rfl) (by rfl) (zc 1))) (zq (jV (Q1 (Wg (yo (ka h) (gK .tup T.jE T.jm (by rfl) (zc 0)) (gK .tup T.jE T.jm (by rfl) (zc 1))) (KR (yo (ka h) (gK .lst T.jE T.Wh (by rfl) (zc 0)) (gK .lst T.jE T.Wh (by rfl) (zc 1)))))) (zq (qo ye) zE) zE) (zq (jV (yo (ka h) (qM T.qK (qg (zc 0))) (qM T.qK (qg (zc 1)))) (zq (qo ye) zE) zE) (zq (qo (YL rfl T.YV (j7 (JI (N:=["_law_one","_law_other"]) 2 [] (JE rfl T.JS (zc 0) (zc 1)) (λ_ _ _=>⟨kP 0 1 rfl (kf),wu,wg (zZ Qj h (zp (zc 0) (zp (zc 1) zt)))⟩))))) zE))) zE) (zq (qo (ZY (gj (gk h) (zc 0) (zc 1)) (Qp (gj (gk h) (gK .bl T.jE T.Xl (by rfl) (zc 0)) (gK .bl T.jE T.Xl (by rfl) (zc 1)))))) zE)
abbrev VT:Stmt:=top 70
def Qf:wy ["_law_call","_law_error","e","_law_marks"] ["_law_call"] (qj VT):=Ya (by kernel_rfl)
def VL:Ex:=zy (qd 3 (qA (zi (yq (ku jU "NoTable") zG) (zi (yq (ku jU "NotSteady") zG) (zi (yq (ku jU "NoPlace") zG) zr))))) (zy (qd 3 (zh ql qv (qA (zi (yq (ku jU "NoKind") zG) (zi (yq (ku jU "NoMix") zG) (zi (yq (ku jU "NoNumber") zG) zr)))))) (zy (qd 3 (zh ql qv (qA (zi (yq (ku jU "NoLot") zG) (zi (yq (ku jU "NoKinds") zG) (zi (yq (ku jU "NoPaper") zG) zr)))))) (zy (qd 3 (zh ql qv (qA (zi (yq (ku jU "NoParting") zG) (zi (yq (ku jU "NoClosed") zG) (zi (yq (ku jU "TooMany") zG) zr)))))) (zy (qd 3 (zh ql qv (qA (zi (yq (ku jU "NoText") zG) (zi (yq (ku jU "NoLine") zG) (zi (yq (ku jU "NoDeed") zG) zr)))))) (zy (qd 3 (zh ql qv (qA (zi (yq (ku jU "NoWeights") zG) (zi (yq (ku jU "NotWhole") zG) (zi (yq (ku jU "NoNumbers") zG) zr)))))) (zy (jB (kh (yq (Rg jU) zG)) (zy (wG gU) zV) zV) (zy (wG (jW (qy 1 [3] (j8 (zW (.int 18))) (zM 0) (zh zD zG zH) (qe zH)))) zV)))))))
def Kv (PG:Zh)(l:Nat->Fn):Ex:=zy (qd 1 gU) (zy (WH 0 1 2 jU PG l) VL)
def Hh {K:Frag}{k:Nat}(T:Bu mg)(C:gu K jU "NearError")(R:GB.all (Q6 K jU)=true){fd:FuncData}(F:wm K "_law_refused" "_law_refused" VT f fd)(a:mg "_law_refused"=some (.ref f)){PG:Zh}{l:Nat->Fn}(h:kk<=k)(L:∀k,Jf P w K mg base kk (PG k) (l k)):qR P w K mg base (k+1) "_law_refused" 1 (qz 4 (Kv PG l)):=
 SH F a Qf (λ_ _ _ _ _ _=>Vp λ_=>rfl) λc A o s H E r=>zq (qc 1 Qf.nd Qn) (zq (AE L (r.mono h) rfl rfl C.top_at C.top_exc (by decide +kernel) C.under Qf.nd rfl rfl rfl rfl rfl rfl rfl) (zq (qc 3 Qf.nd (qO (zp (kU (C.isx (jw R)) (kY (jw R)) T.jE (zc 1)) (zp (kU (C.isx (jw R)) (kY (jw R)) T.jE (zc 1)) (zp (kU (C.isx (jw R)) (kY (jw R)) T.jE (zc 1)) zt))) (zA (zA (zA zO))))) (zq (qc 3 Qf.nd (jb (zc 3) (qO (zp (kU (C.isx (jw R)) (kY (jw R)) T.jE (zc 1)) (zp (kU (C.isx (jw R)) (kY (jw R)) T.jE (zc 1)) (zp (kU (C.isx (jw R)) (kY (jw R)) T.jE (zc 1)) zt))) (zA (zA (zA zO)))))) (zq (qc 3 Qf.nd (jb (zc 3) (qO (zp (kU (C.isx (jw R)) (kY (jw R)) T.jE (zc 1)) (zp (kU (C.isx (jw R)) (kY (jw R)) T.jE (zc 1)) (zp (kU (C.isx (jw R)) (kY (jw R)) T.jE (zc 1)) zt))) (zA (zA (zA zO)))))) (zq (qc 3 Qf.nd (jb (zc 3) (qO (zp (kU (C.isx (jw R)) (kY (jw R)) T.jE (zc 1)) (zp (kU (C.isx (jw R)) (kY (jw R)) T.jE (zc 1)) (zp (kU (C.isx (jw R)) (kY (jw R)) T.jE (zc 1)) zt))) (zA (zA (zA zO)))))) (zq (qc 3 Qf.nd (jb (zc 3) (qO (zp (kU (C.isx (jw R)) (kY (jw R)) T.jE (zc 1)) (zp (kU (C.isx (jw R)) (kY (jw R)) T.jE (zc 1)) (zp (kU (C.isx (jw R)) (kY (jw R)) T.jE (zc 1)) zt))) (zA (zA (zA zO)))))) (zq (qc 3 Qf.nd (jb (zc 3) (qO (zp (kU (C.isx (jw R)) (kY (jw R)) T.jE (zc 1)) (zp (kU (C.isx (jw R)) (kY (jw R)) T.jE (zc 1)) (zp (kU (C.isx (jw R)) (kY (jw R)) T.jE (zc 1)) zt))) (zA (zA (zA zO)))))) (zq (jV (Zb (wz (Ba C.isv T.jE T.FH (by rfl) (zc 1)))) (zq (qo Qn) zE) zE) (zq (qo (gc (JI (N:=["_law_k","_law_marks"]) 1 [3] (jk rfl T.qX zC) (λ_ _ _=>⟨ja 0 (kf),Uz (wz (qh (zc 1) (zc 0))),wg (zc 0)⟩)))) zE)))))))))
abbrev Ks:Stmt:=top 73
def RA:wy ["_law_state_here","_law_calls","_law_bad","_law_broken_here"] ["_law_state_here","_law_calls"] (qj Ks):=Ya (by kernel_rfl)
abbrev kx:Str:=(("_law_no_table_right":Str)++(".<locals>.":Str))++("<lambda>":Str)
abbrev k9:Str:=(("law":Str)++(".<locals>.":Str))++("<lambda>":Str)
def K1 (q:Fn)(P:Obj->Addr->Obj->List V->Prop)(gp:Fn):Lm:=WD (Y4 (Lc (XX (XZ ((j6 Ks).getD 1 QA)))) 0) ["_law_call","_law_bad"] [0,1] (Q5 0 P gp (zi zG zr))
def C6 {K:Frag}{k:Nat}(T:Bu mg){q:Fn}(J:∀base,yw P w K mg base k "mix_by" 2 q){D:Heap}{gp:Fn}(L:∀base,gn D base->Qv P w K mg base k PK gp):Y0 D P w K mg k kx (K1 q PK gp):=
 ⟨⟨rfl,rfl,rfl,Gy⟩,λ_ _ _ _=>rfl,λbase cl a c A o s H E b h x=>yE (P4 x (L base b) h (zp (zc 1) zt) (zA zO))⟩
def KU (q:Fn)(P:Obj->Addr->Obj->List V->Prop)(gp:Fn):Lm:=WD (Y4 (Lc (XX (ic ((j6 Ks).getD 2 QA)))) 0) ["_law_call","_law_broken_here"] [0,1] (Q5 0 P gp (zi zG zr))
def Bt {K:Frag}{k:Nat}(T:Bu mg){q:Fn}(J:∀base,yw P w K mg base k "mix_by" 2 q){D:Heap}{gp:Fn}(L:∀base,gn D base->Qv P w K mg base k PK gp):Y0 D P w K mg k kx (KU q PK gp):=
 ⟨⟨rfl,rfl,rfl,Gy⟩,λ_ _ _ _=>rfl,λbase cl a c A o s H E b h x=>yE (P4 x (L base b) h (zp (zc 1) zt) (zA zO))⟩
def Vz (w:Fn)(a:Fn)(q:Fn)(p:Obj->Addr->Obj->List V->Prop)(gp:Fn)(RG:Lm->Nat->List W->Hx->R W)(P:Addr):Ex:=zy (XO (qP (zi (zP w (zi zH zr)) (zi (zP a (zi zH zr)) zr))) (jH 2 3)) (zy (jB (zh je (jW (qy 1 [2] (qI zG) (zM 0) qH (qe (wZ 2 kx P (K1 q p gp).idx (RG (K1 q p gp) 0))))) (zh qt (qA (zi (qA (zi qG zr)) zr)) (mQ qf (zN zG)))) yT zV) (zy (wG (zh yi (jW (qy 1 [3] (qI zG) (zM 0) qH (qe (wZ 2 kx P (KU q p gp).idx (RG (KU q p gp) 0))))) (zh qt (qA (zi (qA (zi qT zr)) zr)) (mQ qf (zN zG))))) zV))
def Ih {K:Frag}{k:Nat}(T:Bu mg){c:Addr}{fd:FuncData}(F:wm K "_law_no_table_right" "_law_no_table_right" Ks f fd)(n:nsIn K mainGlobals "_law_no_table_right"=some (some (.ref f)))(g:tabIn K "_law_no_table_right"=some (c,Pt))(i:mg "_law_no_table_right"=some (.ref f))(B:BMain mg base)(C:CodeHd base c Pt){Y:Fn}(Jr:qR P w K mg base k "_law_bad_table" 1 Y){e:Fn}(Yn:qR P w K mg base k "_law_broken" 1 e){RG:Lm->Nat->List W->Hx->R W}{j:Nat}(a:kk<=k){q:Fn}(XL_mix_by:∀base,yw P w K mg base j "mix_by" 2 q){gp:Fn}(L:∀b,gn base b->Qv P w K mg b j PK gp)(d:∀t base PG,(∀k,Jf P w K mg base (j+1) (PG k) (gr [t] k))->qR P w K mg base kk "_law_refused" 1 (QK PG (RG t))):qR P w K mg base (k+1) "_law_no_table_right" 2 (qz 4 (Vz Y e q PK gp RG Pt)):=
 iM F n g i RA (λ_ _ _ _ _ _=>Km λ_ _=>rfl) λA o s H E r=>zq (U9 (jf (zp (zZ Jr r (zp (zc 0) zt)) (zp (zZ Yn r (zp (zc 0) zt)) zt)) (zA (zA zO))) (kP 2 3 rfl RA.nd)) (zq (jV (yo (ka r) (gc (P5 (N:=["_law_call","_law_bad"]) 1 [2] rfl (cps) (by kernel_rfl) (K9 λ_=>rfl) (jJ (zc 1)) (λ_ _ _ h=>⟨ja 0 (kf),wu,wg (GA (t:=K1 q PK gp) h (C6 T XL_mix_by L) (by kernel_rfl) (d _) (r.mono a) B rfl C rfl rfl)⟩))) (jg (qO (zp (qO (zp zC zt) (zA zO)) zt) (zA zO)) (qM T.qK (qg (zc 1))))) (zq (qo ye) zE) zE) (zq (qo (gj (gk r) (gc (P5 (N:=["_law_call","_law_broken_here"]) 1 [3] rfl (cps) (by kernel_rfl) (K9 λ_=>rfl) (jJ (zc 1)) (λ_ _ _ h=>⟨ja 0 (kf),wu,wg (GA (t:=KU q PK gp) h (Bt T XL_mix_by L) (by kernel_rfl) (d _) (r.mono a) B rfl C rfl rfl)⟩))) (jg (qO (zp (qO (zp zC zt) (zA zO)) zt) (zA zO)) (qM T.qK (qg (zc 1)))))) zE))
abbrev JT:Stmt:=top 75
def wX:wy ["_law_script","_law_k","_law_state_here","_law_table","_law_rows","_law_mix","_law_worths","_law_row","_law_at","_law_other","_law_some","_law_odd","_law_bad","_law_part"] ["_law_script"] (qj JT):=Ya (by kernel_rfl)
abbrev iQ:Expr:=(Y4 (Y4 (ir (XZ (SY ((j6 JT).getD 0 QA) 17))) 1) 0)
def Z3 (q:Fn):Lm:=WD iQ ["_law_bad"] [12] (zP q (zi zH (zi zG zr)))
def iR {K:Frag}{k:Nat}(T:Bu mg){q:Fn}(J:∀base,yw P w K mg base k "mix_by" 2 q):Ss P w K mg k k9 "_law_one" (Z3 q):=
 ⟨BI (by kernel_rfl),λ_ _ _ _ _=>rfl,λbase cl a c A o s H E h x=>yE (Jz x (J base) h (zp (zc 0) (zp (zc 1) zt)))⟩
def K3 (q:Fn):Lm:=WD (Y4 (XX (XZ (SY ((j6 JT).getD 0 QA) 14))) 0) ["_law_table","_law_bad"] [3,12] (zP q (zi zH (zi zG zr)))
def D8 {K:Frag}{k:Nat}(T:Bu mg){q:Fn}(J:∀base,yw P w K mg base k "mix_by" 2 q):XT P w K mg k k9 (K3 q):=
 ⟨⟨rfl,rfl,rfl,Gy⟩,λ_ _ _ _=>rfl,λbase cl a c A o s H E h x=>yE (Jz x (J base) h (zp (zc 0) (zp (zc 1) zt)))⟩
def KQ (q:Fn):Lm:=WD (Y4 (XX (XZ (SY ((j6 JT).getD 0 QA) 16))) 0) ["_law_bad","_law_part"] [12,13] (zP q (zi zG (zi zH zr)))
def BH {K:Frag}{k:Nat}(T:Bu mg){q:Fn}(J:∀base,yw P w K mg base k "mix_by" 2 q):XT P w K mg k k9 (KQ q):=
 ⟨⟨rfl,rfl,rfl,Gy⟩,λ_ _ _ _=>rfl,λbase cl a c A o s H E h x=>yE (Jz x (J base) h (zp (zc 1) (zp (zc 0) zt)))⟩
def Sv (a:Fn)(g:Fn)(h:Fn)(Q:Fn)(d:Fn)(Z:Fn)(b:Fn)(w:Fn)(K:Fn)(q:Fn)(NT:W->List W->Hx->R W)(RG:Lm->Nat->List W->Hx->R W)(P:Addr):Ex:=zy (jD (j8 (zh Sd qT (zh Sl (mQ qf (zN zH)) WJ))) (zM 1) (zy (qd 2 (zP d (zi zH (zi zG zr)))) (zy (qd 3 (zP w (zi zQ zr))) (zy (qd 4 (zP a (zi qv zr))) (zy (qd 5 (mQ jS (qy 1 [2] (qI qw) (zM 0) qH (qe (zh w5 (zP Z (zi zG (zi (zW (.int 19)) zr))) Rv))))) (zy (qd 6 (qA zr)) (zy (jD (qI qw) (zM 7) (zy (yx (j4 yk qL (mQ wH (qy 1 [5,7] (j8 (mQ qf (zN wI))) (zM 0) qH (qe (zh qt (zh zD zQ zH) (zh zD zG zH))))))) zV)) (zy (jB (zh je (zP K (zi qv (zi (mQ jS (zN qL)) zr))) jN) yT zV) (zy (qd 8 (zP Z (zi zQ (zi (mQ qf (zN qL)) zr)))) (zy (qd 9 (zh ql (zh ql (yz qL yL (j9 yS)) (qA (zi (zh ql (zh ql (zh zD qL yS) qT) (zP Z (zi zQ (zi WU zr)))) zr))) (yz qL (j9 (zh ql yS qT)) yL))) (zy (jD (qI (qA (zi qL (zi Qe (zi (jW (qy 1 [2] (qI qw) (zM 0) qH (qe (zh w5 (zP Z (zi zG (zi (zW (.int 30)) zr))) (zW (.int 15)))))) zr))))) (zM 10) (zy (jB (kh (zP Q (zi (zP K (zi qv (zi (mQ jS (zN Y5)) zr))) (zi (zP g (zi qv (zi qw (zi Y5 zr)))) zr)))) yT zV) zV)) (zy (qd 11 (zh zD (qA (zi qH (zi gU (zi (zW (.str "1")) (zi (qP (zi qT zr)) zr))))) (zP Z (zi zQ (zi WR zr))))) (zy (qd 12 (qA (zi qL (zi (mQ jS (zN (yz qL (j9 qT) yL))) (zi (zh ql (mQ jS (zN qL)) (qP (zi qG zr))) (zi gU (zi qG (zi X5 zr)))))))) (zy (yx (j4 yk Jj (zh ql (zh ql (mQ jS (zN (yz Qe yL (j9 yS)))) (qP (zi Lf zr))) (mQ jS (zN (yz Qe (j9 (zh ql yS qT)) yL)))))) (zy (qd 12 (zh zD Jj (zP Z (zi zQ (zi QR zr))))) (zy (jB (zh je (wZ 1 k9 P (K3 q).idx (RG (K3 q) 0)) (qA (zi (zW (.int 17)) zr))) yT zV) (zy (qd 13 (zP b (zi zQ (zi (zP h (zi (zh zD (qA (zi WJ (zi QR zr))) (zP Z (zi zQ (zi Jn zr)))) zr)) zr)))) (zy (jB (zh je (wZ 1 k9 P (KQ q).idx (RG (KQ q) 0)) (qA (zi (zW (.int 16)) zr))) yT zV) (zy (jB (kh (Q9 1 k9 P (Z3 q).idx zQ NT)) yT zV) zV))))))))))))))))))) (zy (wG qH) zV)
def o_law {K:Frag}{k:Nat}(T:Bu mg){c:Addr}{fd:FuncData}(F:wm K "law" "law" JT f fd)(z:nsIn K mainGlobals "law"=some (some (.ref f)))(y:tabIn K "law"=some (c,Pt))(d:BMain mg base)(C:CodeHd base c Pt){i:Fn}(Jq:qR P w K mg base k "_law_all_weights" 1 i){p:Fn}(Jv:qR P w K mg base k "_law_due" 3 p){r:Fn}(Qh:qR P w K mg base k "_law_ring" 1 r){Q:Fn}(Qj:qR P w K mg base k "_law_same" 2 Q){u:Fn}(Yo:qR P w K mg base k "_law_state" 2 u){Z:Fn}(jq:qR P w K mg base k "_law_take" 2 Z){l:Fn}(Zx:qR P w K mg base k "_law_turned_about" 2 l){g:Fn}(Yj:qR P w K mg base k "_law_whole_one" 1 g){o:Fn}(Ql:qR P w K mg base k "mix_by" 2 o){RG:Lm->Nat->List W->Hx->R W}{j:Nat}(a:kk<=k){q:Fn}(XL_mix_by:∀base,yw P w K mg base j "mix_by" 2 q){kn:Nat}{NT:W->List W->Hx->R W}(n:kn<=k)(N:∀b,gn base b->∀PK,(∀B,gn b B->Qv P w K mg B (j+1) PK λws A=>(Z3 q).m (ws.map some) A)->qR P w K mg b kn "_law_no_table_right" 2 (fN PK))(v:∀PK w ws A,Hand fN NT PK w ws A)(e:∀t base PG,(∀k,Jf P w K mg base (j+1) (PG k) (gr [t] k))->qR P w K mg base kk "_law_refused" 1 (QK PG (RG t))):yt P w K mg base kO (k+1) f fd ["_law_script"] (Zq K 1 (qz 14 (Sv i p r Q u Z l g o q NT RG Pt))):=
 iK F z y wX λA x s H E h=>zq (jl PassesOwn.never rfl (jk rfl T.qX (Bb rfl T.JW zC (Ol rfl T.MW (qM T.qK (qg (zc 0))) zC))) (ja 1 wX.nd) (zq (qc 2 wX.nd (zZ Yo h (zp (zc 0) (zp (zc 1) zt)))) (zq (qc 3 wX.nd (zZ Yj h (zp (zc 2) zt))) (zq (qc 4 wX.nd (zZ Jq h (zp (zc 3) zt))) (zq (qc 5 wX.nd (jF T.jm (j7 (jG [2] (jJ (zc 4)) (λ_ _ _=>ZE (zZ jq h (zp (zc 1) (zp zC zt))) zC))))) (zq (qc 6 wX.nd (qO zt zO)) (zq (jl PassesOwn.never rfl (jJ (zc 4)) (ja 7 wX.nd) (zq (yy (wt (zc 6) (KY rfl T.Wl (j7 (jG [5,7] (jk rfl T.qX (qM T.qK (qg (zc 7)))) (λ_ _ _=>jg (qh (zc 2) (zc 0)) (qh (zc 1) (zc 0)))))))) zE)) (zq (jV (yo (ka h) (zZ Ql h (zp (zc 3) (zp (jF T.jm (qg (zc 6))) zt))) (zc 5)) (zq (qo ye) zE) zE) (zq (qc 8 wX.nd (zZ jq h (zp (zc 2) (zp (qM T.qK (qg (zc 6))) zt)))) (zq (qc 9 wX.nd (jb (jb (JA (zc 6) JR (JF (zc 8))) (qO (zp (jb (jb (qh (zc 6) (zc 8)) zC) (zZ jq h (zp (zc 2) (zp zC zt)))) zt) (zA zO))) (JA (zc 6) (JF (jb (zc 8) zC)) JR))) (zq (jl PassesOwn.never rfl (jJ (qO (zp (zc 6) (zp (zc 9) (zp (gc (jG [2] (jJ (zc 4)) (λ_ _ _=>ZE (zZ jq h (zp (zc 1) (zp zC zt))) zC))) zt))) (zA (zA (zA zO))))) (ja 10 wX.nd) (zq (jV (Zb (wz (zZ Qj h (zp (zZ Ql h (zp (zc 3) (zp (jF T.jm (qg (zc 10))) zt))) (zp (zZ Jv h (zp (zc 3) (zp (zc 4) (zp (zc 10) zt)))) zt))))) (zq (qo ye) zE) zE) zE)) (zq (qc 11 wX.nd (qh (qO (zp ye (zp Qn (zp YI (zp (jf (zp zC zt) (zA zO)) zt)))) (zA (zA (zA (zA zO))))) (zZ jq h (zp (zc 2) (zp zC zt))))) (zq (qc 12 wX.nd (qO (zp (zc 6) (zp (jF T.jm (qg (JA (zc 6) (JF zC) JR))) (zp (jb (jF T.jm (qg (zc 6))) (jf (zp zC zt) (zA zO))) (zp Qn (zp zC (zp U4 zt)))))) (zA (zA (zA (zA (zA (zA zO)))))))) (zq (yy (wt (zc 12) (jb (jb (jF T.jm (qg (JA (zc 9) JR (JF (zc 8))))) (jf (zp (zc 11) zt) (zA zO))) (jF T.jm (qg (JA (zc 9) (JF (jb (zc 8) zC)) JR)))))) (zq (qc 12 wX.nd (qh (zc 12) (zZ jq h (zp (zc 2) (zp zC zt))))) (zq (jV (yo (ka h) (GA (t:=K3 q) (K9 λ_=>rfl) (D8 T XL_mix_by).toD (by kernel_rfl) (e _) (h.mono a) d rfl C rfl rfl) (qO (zp zC zt) (zA zO))) (zq (qo ye) zE) zE) (zq (qc 13 wX.nd (zZ Zx h (zp (zc 2) (zp (zZ Qh h (zp (qh (qO (zp zC (zp zC zt)) (zA (zA zO))) (zZ jq h (zp (zc 2) (zp zC zt)))) zt)) zt)))) (zq (jV (yo (ka h) (GA (t:=KQ q) (K9 λ_=>rfl) (BH T XL_mix_by).toD (by kernel_rfl) (e _) (h.mono a) d rfl C rfl rfl) (qO (zp zC zt) (zA zO))) (zq (qo ye) zE) zE) (zq (jV (Zb (wz (Dc (t:=Z3 q) (K9 λ_=>rfl) (iR T XL_mix_by) (by kernel_rfl) (zc 2) N v (h.mono n) d rfl C rfl rfl))) (zq (qo ye) zE) zE) zE))))))))))))))))))) (zq (qo ye) zE)
def Fv:Fn:=qz 2 (Zy (λ_ _=>.bad))
def Pe:Fn :=  Fv
def Fd:Fn:=qz 2 (Zy Pe)
def Pb:Fn :=  Fd
def Fi:Fn:=qz 2 (Zy Pb)
def Pc:Fn :=  Fi
def F0:Fn:=qz 2 (Zy Pc)
def Qj:Fn :=  F0
structure Tx (K:Frag):Prop where
 Ef:FD K "is_whole" (top 1)
 Dj:FD K "is_even" (top 27)
 Ik:FD K "leaves_no_kind_out" (top 28)
 HE:FD K "count_kinds" (top 30)
 HR:FD K "first_pairs" (top 32)
 zcr:FD K "fits" (top 39)
 FG:FD K "_law_kinds" (top 46)
 Hc:FD K "_law_cell_at" (top 49)
 FU:FD K "_law_take" (top 51)
 FA:FD K "_law_alike" (top 52)
 F6:FD K "_law_ring" (top 53)
 HS:FD K "_law_blocks" (top 54)
 HQ:FD K "_law_unlike" (top 55)
 IS:FD K "_law_each_own" (top 56)
 Fs:FD K "_law_pairs" (top 57)
 HY:FD K "_law_named" (top 61)
 Ft:FD K "_law_whole" (top 66)
 F7:FD K "is_wholes" (top 2)
 IX:FD K "count_shares" (top 31)
 Hl:FD K "count_sizes" (top 37)
 H9:FD K "_law_sizes" (top 47)
 Fe:FD K "_law_state" (top 50)
 Hz:FD K "_law_beside" (top 58)
 HP:FD K "_law_within" (top 59)
 FP:FD K "_law_mixed" (top 60)
 HD:FD K "_law_shares" (top 64)
 IH:FD K "_law_bad_table" (top 71)
 Hr:FD K "_law_broken" (top 72)
 Iw:FD K "is_wholes_below" (top 3)
 HB:FD K "kind_shares" (top 33)
 He:FD K "search_break" (top 34)
 HA:FD K "count_often" (top 43)
 FC:FD K "_law_often" (top 48)
 Il:FD K "_law_turned_about" (top 62)
 Hd:FD K "_law_numbers" (top 65)
 EO:FD K "is_table" (top 26)
 IL:FD K "search_weights" (top 40)
 IC:FD K "_law_whole_one" (top 63)
 Im:FD K "_law_are_weights" (top 67)
 Gm:FD K "_law_same" Uh
 Ej:FD K "_law_due" (top 74)
 IT:FD K "require_table" (top 29)
 Iq:FD K "_law_all_weights" (top 68)
 IF:FD K "require_steady" (top 35)
 IJ:FD K "is_whole_table" (top 41)
 IU:FD K "require_whole" (top 42)
 Ce:FD K "mix_by" (top 44)
 IW:FD K "_law_refused" VT
 Ig:FD K "_law_no_table_right" Ks
 zc8:FD K "law" JT
 Fh:nsIn K mainGlobals "ValueError"=some none
 zen:nsIn K mainGlobals "all"=some none
 zcR:nsIn K mainGlobals "any"=some none
 zbS:nsIn K mainGlobals "bool"=some none
 F2:nsIn K mainGlobals "enumerate"=some none
 zdA:nsIn K mainGlobals "int"=some none
 FI:nsIn K mainGlobals "isinstance"=some none
 zdX:nsIn K mainGlobals "len"=some none
 zcl:nsIn K mainGlobals "list"=some none
 zdO:nsIn K mainGlobals "max"=some none
 zdf:nsIn K mainGlobals "min"=some none
 AF:nsIn K mainGlobals "range"=some none
 zdB:nsIn K mainGlobals "set"=some none
 Cc:nsIn K mainGlobals "sorted"=some none
 zda:nsIn K mainGlobals "sum"=some none
 zat:nsIn K mainGlobals "tuple"=some none
 zeq:nsIn K mainGlobals "zip"=some none
 Hv:CD K "MOST_PLACES" 8
 zcY:jU.all (Xa K "NearError" ·)=true
 zdI:Tv K "NearError"=true
 zep:GB.all (Q6 K jU)=true
section
variable {K:Frag}
def bu (X:K.In h)(G:h.Ns mainGlobals mg)(T:Tx K):Bu mg:=⟨aV X G T.Fh,aV X G T.zen,aV X G T.zcR,aV X G T.zbS,aV X G T.F2,aV X G T.zdA,aV X G T.FI,aV X G T.zdX,aV X G T.zcl,aV X G T.zdO,aV X G T.zdf,aV X G T.AF,aV X G T.zdB,aV X G T.Cc,aV X G T.zda,aV X G T.zat,aV X G T.zeq,(let ⟨t,e⟩:=T.Hv;⟨t,mg_of X G e⟩)⟩
def cl (T:Tx K):gu K jU "NearError":=ia T.zcY T.zdI
structure Zz (K:Frag)(h:Heap)(mg:b0):Prop where
 X:K.In h
 G:h.Ns mainGlobals mg
 T:Tx K
 B:Bu mg
 C:gu K jU "NearError"
def zz (X:K.In h)(G:h.Ns mainGlobals mg)(T:Tx K):Zz K h mg:=⟨X,G,T,bu X G T,cl T⟩
abbrev Gt (l:Nat)(x:Str)(n:Nat)(F:Fn):Prop:=∀{P:Program}{w:World}{K:Frag}{mg:b0}{base h:Heap}(_:Zz K h mg),qR P w K mg base l x n F
abbrev Qm (l:Nat)(x:Str)(n N:Nat):=Σ' m:Ex,Gt l x n (qz N m)
def Gi {l:Nat}{F:Fn}(q:Gt l x n F):Gt l x n (iso F):=λZ=>(q Z).iso
def Gl {l:Nat}{F:Fn}(q:Gt l x n F):Gt l x n (wj F):=λZ=>(q Z).wj
abbrev Qx (l:Nat)(x:Str)(n N:Nat):=Σ' m:Ex,∀{P:Program}{w:World}{K:Frag}{mg:b0}{base h:Heap}(_:Zz K h mg),yw P w K mg base l x n (gm N m)
def gN {t:Stmt}{k N:Nat}{m:Ex}(Z:Zz K h mg)(e:FD K x t)
  (B:∀{f:Addr}{C:Value}{A:Around}{j:b8}{s:Shared}{H:Hp}{E:XK}(_:(yK (qj t)).Nodup),jd k (A.deeper (PyProof.Rows.envOfC x (qj t) s.heap.objs.size f C))->yR (kg kO P w K mg base (yK (qj t)) x (qj t) f C A j s H E).nox jX (j6 t) m)
  (S:wy (yK (qj t)) ((yK (qj t)).take n) (qj t):=by exact Ya (by kernel_rfl))(l:((yK (qj t)).take n).length=n:=by kernel_rfl)(i:(yK (qj t)).length=N:=by kernel_rfl)
  (g:∀(kV D p:Value)(q:cf)(C ct:Value)(u:bS),u.length=n->bindArgs (fnOf x x (Za t) (j6 t) (qj t) .none kV D p q C ct) ⟨u,[]⟩=pure (((yK (qj t)).take n).zip u):=by first|exactλ_ _ _ _ _ _=>Vp λ_=>rfl|exactλ_ _ _ _ _ _=>Km λ_ _=>rfl|exactλ_ _ _ _ _ _=>Ro λ_ _ _=>rfl|exactλ_ _ _ _ _ _=>bd4 λ_ _ _ _=>rfl|exactλ_ _ _ _ _ _=>bd5 λ_ _ _ _ _=>rfl):
  qR P w K mg base (k+1) x n (qz N m):=by
 obtain⟨f,fd,F,a⟩:=e
 have:=SH F (mg_of Z.X Z.G a) S (λa b c d e f u h=>g a b c d e f u (h.trans l)) λc A o s H E r=>B S.nd r
 rw[l,i]at this;exact this
def mq {t:Stmt}{k N:Nat}{m:Ex}(d:∀{K:Frag}{h:Heap}{M:b0},Zz K h M->FD K x t)(B:∀{P:Program}{w:World}{K:Frag}{M:b0}{e h:Heap}{f:Addr}{c:Value}{A:Around}{o:b8}{s:Shared}{H:Hp}{E:XK}(_:Zz K h M)(_:(yK (qj t)).Nodup),jd k (A.deeper (PyProof.Rows.envOfC x (qj t) s.heap.objs.size f c))->yR (kg kO P w K M e (yK (qj t)) x (qj t) f c A o s H E).nox jX (j6 t) m)
  (S:wy (yK (qj t)) ((yK (qj t)).take n) (qj t):=by exact Ya (by kernel_rfl))(g:((yK (qj t)).take n).length=n:=by kernel_rfl)(a:(yK (qj t)).length=N:=by kernel_rfl)
  (b:∀(kV D p:Value)(i:cf)(c ct:Value)(u:bS),u.length=n->bindArgs (fnOf x x (Za t) (j6 t) (qj t) .none kV D p i c ct) ⟨u,[]⟩=pure (((yK (qj t)).take n).zip u):=by first|exactλ_ _ _ _ _ _=>Vp λ_=>rfl|exactλ_ _ _ _ _ _=>Km λ_ _=>rfl|exactλ_ _ _ _ _ _=>Ro λ_ _ _=>rfl|exactλ_ _ _ _ _ _=>bd4 λ_ _ _ _=>rfl|exactλ_ _ _ _ _ _=>bd5 λ_ _ _ _ _=>rfl):Qm (k+1) x n N:=⟨m,λZ=>gN Z (d Z) (λn r=>B Z n r) S g a b⟩
def gY {t:Stmt}{k N:Nat}{m:Ex}(Z:Zz K h mg)(e:FD K x t)
  (B:∀{f:Addr}{C:Value}{A:Around}{l:b8}{s:Shared}{H:Hp}{E:XK}(_:(yK (qj t)).Nodup),jd k (A.deeper (PyProof.Rows.envOfC x (qj t) s.heap.objs.size f C))->wO (kg (wU P w) P w K mg base (yK (qj t)) x (qj t) f C A l s H E) s.heap (kj K E)->yR (kg (wU P w) P w K mg base (yK (qj t)) x (qj t) f C A l s H E) (kj K E) (j6 t) m)
  (S:wy (yK (qj t)) ((yK (qj t)).take n) (qj t):=by exact Ya (by kernel_rfl))(p:((yK (qj t)).take n).length=n:=by kernel_rfl)(j:(yK (qj t)).length=N:=by kernel_rfl)
  (i:∀(kV D q:Value)(v:cf)(C ct:Value)(u:bS),u.length=n->bindArgs (fnOf x x (Za t) (j6 t) (qj t) .none kV D q v C ct) ⟨u,[]⟩=pure (((yK (qj t)).take n).zip u):=by first|exactλ_ _ _ _ _ _=>Vp λ_=>rfl|exactλ_ _ _ _ _ _=>Km λ_ _=>rfl|exactλ_ _ _ _ _ _=>Ro λ_ _ _=>rfl|exactλ_ _ _ _ _ _=>bd4 λ_ _ _ _=>rfl):
  yw P w K mg base (k+1) x n (gm N m):=by
 obtain⟨f,fd,F,a⟩:=e
 have:=iH F (mg_of Z.X Z.G a) S (λa b c d e f u h=>i a b c d e f u (h.trans p)) λc A o s H E r g=>B S.nd r g
 rw[p,j]at this;exact this
def Uq:Qm 1 "is_whole" 1 1:=mq (·.T.Ef) λZ n h=>zq (qo (ZY (gK .int Z.B.jE Z.B.Wu (by rfl) (zc 0)) (Qp (Ni (gK .bl Z.B.jE Z.B.Xl (by rfl) (zc 0)))))) zE
def Uo:Fn:=qz 1 Uq.1
def Jw:Fn :=  Uo
def Eh:Gt 1 "is_whole" 1 Jw:=Uq.2
def Uw:Qm 1 "is_even" 1 5:=mq (·.T.Dj) λZ n h=>zq (jl PassesOwn.never rfl (JB rfl Z.B.Js (zc 0)) (kP 1 2 rfl n) (zq (jl PassesOwn.never rfl (JB rfl Z.B.Js (zc 2)) (kP 3 4 rfl n) (zq (jV (Q1 (Wg (yo (ka h) (gj (gk h) (zc 4) zC) (gj (gk h) (zc 1) (zc 3))) (KR (yo (ka h) (qh (qh (zc 0) (zc 3)) (zc 1)) (zc 4))))) (zq (qo ye) zE) zE) zE)) zE)) (zq (qo ye) zE)
def De:Fn:=qz 5 Uw.1
def PL:Fn:=iso De
def Dz:Gt 1 "is_even" 1 PL:=Gi Uw.2
def VA:Qm 1 "leaves_no_kind_out" 1 2:=mq (·.T.Ik) λZ n H=>zq (qc 1 n (gc (JI (N:=["row","kind"]) 2 [] (jJ (zc 0)) (λ_ _ _=>⟨ja 0 (kf),wu,Nb (λ_ _ z=>z) rfl rfl (by intro _ h;cases h<;>rfl) (jJ (zc 0)) (ja 1 (kf)) wu (wg (zc 1))⟩)))) (zq (qo (YL rfl Z.B.YV (j7 (jG [1] (jk rfl Z.B.qX (YC rfl Z.B.JW (qg (zc 1)))) (λ_ _ _=>f6 fA (zc 0) (zc 1)))))) zE)
def Ii:Fn:=qz 2 VA.1
def RC:Fn:=iso Ii
def Ij:Gt 1 "leaves_no_kind_out" 1 RC:=Gi VA.2
def VU:Qm 1 "count_kinds" 1 1:=mq (·.T.HE) λZ n h=>zq (qo (jb (YC rfl Z.B.JW (j7 (jG [] (jJ (zc 0)) (λ_ _ _=>YC rfl Z.B.JW (qg (zc 0)))))) zC)) zE
def HI:Fn:=qz 1 VU.1
def W9:Fn:=iso HI
def W7:Gt 1 "count_kinds" 1 W9:=Gi VU.2
def VX:Qm 1 "first_pairs" 1 6:=mq (·.T.HR) λZ n h=>zq (qc 1 n U4) (zq (jl PassesOwn.never rfl (JB rfl Z.B.Js (zc 0)) (kP 2 3 rfl n) (zq (jl PassesOwn.never rfl (JB rfl Z.B.Js (zc 3)) (kP 4 5 rfl n) (zq (yy (ED (zc 1) (zc 5) (jf (zp (zc 2) (zp (zc 4) zt)) (zA (zA zO))))) zE)) zE)) (zq (qo (zc 1)) zE))
def RS:Fn:=qz 6 VX.1
def W6:Fn:=iso RS
def RW:Gt 1 "first_pairs" 1 W6:=Gi VX.2
def Xx:Qm 1 "fits" 2 7:=mq (·.T.zcr) λZ n h=>zq (qc 2 n (qM Z.B.qK (qg (zc 1)))) (zq (jl PassesOwn.never rfl (jk rfl Z.B.qX (zc 2)) (ja 3 n) (zq (jl PassesOwn.never rfl (jk rfl Z.B.qX (zc 2)) (ja 4 n) (zq (Qi 5 (N:=["by_kind","i","j"]) 1 [3,4] n rfl (cps) (by kernel_rfl) (jJ (JA (zc 0) (JF (zc 2)) JR)) (λ_ _ _=>⟨ja 0 (kf),wu,wg (qh (qh (zc 0) (zc 1)) (zc 2))⟩)) (zq (Qi 6 (N:=["by_kind","weight","i","j"]) 2 [3,4] n rfl (cps) (by kernel_rfl) (JE rfl Z.B.JS (zc 0) (zc 1)) (λ_ _ _=>⟨kP 0 1 rfl (kf),wu,wg (jg (qh (qh (zc 0) (zc 2)) (zc 3)) (zc 1))⟩)) (zq (jV (Q1 (U6 (Zb (wz (Ai rfl Z.B.zdv (qg (zc 5))))) (UA (yo (ka h) (jg (qh (zc 1) (zc 3)) (qh (zc 1) (zc 4))) (KY rfl Z.B.Wl (qg (zc 6))))))) (zq (qo ye) zE) zE) zE)))) zE)) (zq (qo ye) zE))
def Tz:Fn:=qz 7 Xx.1
def Wc:Fn:=wj Tz
def iS:Gt 1 "fits" 2 Wc:=Gl Xx.2
def R5:Qm 1 "_law_kinds" 1 1:=mq (·.T.FG) λZ n h=>zq (qo (jb (YC rfl Z.B.JW (j7 (jG [] (jJ (zc 0)) (λ_ _ _=>YC rfl Z.B.JW (qg (zc 0)))))) zC)) zE
def Fp:Fn:=qz 1 R5.1
def R7:Fn:=iso Fp
def Yp:Gt 1 "_law_kinds" 1 R7:=Gi R5.2
def W5:Qm 1 "_law_cell_at" 2 2:=mq (·.T.Hc) λZ n h=>zq (jV (yo Lr (zc 1) (qM Z.B.qK (qg (zc 0)))) (zq (qo (qh (zc 0) (zc 1))) zE) zE) (zq (qo zC) zE)
def Hg:Fn:=qz 2 W5.1
def VO:Fn :=  Hg
def IV:Gt 1 "_law_cell_at" 2 VO:=W5.2
def Gj:Qm 1 "_law_take" 2 4:=mq (·.T.FU) λZ n h=>zq (jV (wz (qh (zc 0) zC)) (zq (qc 2 n (wV (qh (zc 0) zC) (zc 1))) (zq (G4 (g9 (qh (zc 0) zC) (zc 1)) (zc 0) zC) (zq (qo (zc 2)) zE))) zE) (zq (G4 (wV (jb (jg (qh (zc 0) zC) zC) zC) zC) (zc 0) zC) (zq (qc 3 n (wV (jb (jb (jg (qh (zc 0) zC) (qh (zc 0) zC)) (jg zC (qh (zc 0) zC))) zC) zC)) (zq (qc 3 n (wV (jb (jg (zc 3) (zc 3)) (jg zC (zc 3))) zC)) (zq (qo (wV (g9 (zc 3) zC) (zc 1))) zE))))
def QW:Fn:=qz 4 Gj.1
def jq:Fn:=wj QW
def Jt:Gt 1 "_law_take" 2 jq:=Gl Gj.2
def Pd:Qm 1 "_law_alike" 1 1:=mq (·.T.FA) λZ n h=>zq (qo (jF Z.B.jm (j7 (jG [0] (jk rfl Z.B.qX (zc 0)) (λ_ _ _=>jF Z.B.jm (j7 (jG [0] (jk rfl Z.B.qX (zc 1)) (λ_ _ _=>Ut Z.B.Wu (gj (ka h) (zc 1) (zc 0)))))))))) zE
def Pg:Fn:=qz 1 Pd.1
def Kx:Fn:=iso Pg
def Kz:Gt 1 "_law_alike" 1 Kx:=Gi Pd.2
def Pj:Qm 1 "_law_ring" 1 1:=mq (·.T.F6) λZ n h=>zq (qo (jF Z.B.jm (j7 (jG [0] (jk rfl Z.B.qX (zc 0)) (λ_ _ _=>jF Z.B.jm (j7 (jG [0,1] (jk rfl Z.B.qX (zc 1)) (λ_ _ _=>Ol rfl Z.B.MW (wV (ZE (zc 1) (zc 0)) (zc 2)) (wV (ZE (zc 0) (zc 1)) (zc 2)))))))))) zE
def FT:Fn:=qz 1 Pj.1
def Qh:Fn:=iso FT
def Gg:Gt 1 "_law_ring" 1 Qh:=Gi Pj.2
def RU:Qm 1 "_law_blocks" 2 6:=mq (·.T.HS) λZ n h=>zq (qc 2 n (qO zt zO)) (zq (jl PassesOwn.never rfl (jk rfl Z.B.qX (jg (zc 0) (zc 1))) (ja 3 n) (zq (qc 4 n (qO zt zO)) (zq (jl PassesOwn.never rfl (jk rfl Z.B.qX (jg (zc 0) (zc 1))) (ja 5 n) (zq (yy (wt (zc 4) (jb (Ut Z.B.Wu (gj (ka h) (zc 3) (zc 5))) (Ut Z.B.Wu (ZY (gj (ka h) (g9 (zc 3) (zc 1)) (g9 (zc 5) (zc 1))) (Qp (gj Lz (zc 1) zC))))))) zE)) (zq (yy (wt (zc 2) (jF Z.B.jm (qg (zc 4))))) zE)))) (zq (qo (jF Z.B.jm (qg (zc 2)))) zE))
def Hn:Fn:=qz 6 RU.1
def R3:Fn:=iso Hn
def HN:Gt 1 "_law_blocks" 2 R3:=Gi RU.2
def R0:Qm 1 "_law_unlike" 1 3:=mq (·.T.HQ) λZ n h=>zq (qc 1 n (qO zt zO)) (zq (jl PassesOwn.never rfl (jk rfl Z.B.qX (G8 zC (zc 0))) (ja 2 n) (zq (yy (wt (zc 1) (jF Z.B.jm (j7 (jG [0,2] (jk rfl Z.B.qX (G8 zC (zc 0))) (λ_ _ _=>PD (gc (jG [0,2] (jk rfl Z.B.qX (zc 1)) (λ_ _ _=>Bo (iJ (Nl (zc 2) (zc 1)) (zc 0)) zC))) zC)))))) zE)) (zq (qo (jF Z.B.jm (qg (zc 1)))) zE))
def Hs:Fn:=qz 3 R0.1
def RY:Fn:=iso Hs
def HL:Gt 1 "_law_unlike" 1 RY:=Gi R0.2
def RM:Qm 1 "_law_each_own" 1 1:=mq (·.T.IS) λZ n h=>zq (qo (jF Z.B.jm (j7 (jG [0] (jk rfl Z.B.qX (G8 zC (zc 0))) (λ_ _ _=>jF Z.B.jm (j7 (jG [0] (jk rfl Z.B.qX (G8 zC (zc 1))) (λ_ _ _=>Nl (zc 1) (zc 0))))))))) zE
def IQ:Fn:=qz 1 RM.1
def RO:Fn:=iso IQ
def IP:Gt 1 "_law_each_own" 1 RO:=Gi RM.2
def Pa:Qm 1 "_law_pairs" 1 5:=mq (·.T.Fs) λZ n h=>zq (qc 1 n (qO zt zO)) (zq (jl PassesOwn.never rfl (jk rfl Z.B.qX (zc 0)) (ja 2 n) (zq (yy (Pz (zc 1) (gc (jG [2] (GF rfl Z.B.qX (jb (zc 2) zC) (zc 0)) (λ_ _ _=>jf (zp (zc 1) (zp (zc 0) zt)) (zA (zA zO))))))) zE)) (zq (qc 3 n (qO zt zO)) (zq (jl PassesOwn.never rfl (jJ (zc 1)) (ja 4 n) (zq (yy (wt (zc 3) (jF Z.B.jm (j7 (jG [4] (jJ (zc 1)) (λ_ _ _=>ZE zC (Eu rfl Z.B.qK Z.B.zeu (jb (zc 1) (zc 0))))))))) zE)) (zq (qo (jF Z.B.jm (j7 (jG [] (jJ (zc 3)) (λ_ _ _=>jF Z.B.jm (j7 (jG [] (jJ (zc 0)) (λ_ _ _=>qh (qO (zp zC (zp zC (zp zC zt))) (zA (zA (zA zO)))) (zc 0))))))))) zE))))
def HX:Fn:=qz 5 Pa.1
def R9:Fn:=iso HX
def Fz:Gt 1 "_law_pairs" 1 R9:=Gi Pa.2
def Ua:Qm 1 "_law_named" 3 3:=mq (·.T.HY) λZ n h=>zq (qo (jF Z.B.jm (j7 (jG [0,1,2] (jJ (zc 1)) (λ_ _ _=>jF Z.B.jm (j7 (jG [0,1,3] (jJ (zc 2)) (λ_ _ _=>qh (zc 3) (qh (qh (zc 2) (zc 1)) (zc 0)))))))))) zE
def Pf:Fn:=qz 3 Ua.1
def Uc:Fn :=  Pf
def FL:Gt 1 "_law_named" 3 Uc:=Ua.2
def R8:Qm 1 "_law_whole" 1 1:=mq (·.T.Ft) λZ n h=>zq (qo (ZY (gK .int Z.B.jE Z.B.Wu (by rfl) (zc 0)) (Qp (Ni (gK .bl Z.B.jE Z.B.Xl (by rfl) (zc 0)))))) zE
def Fq:Fn:=qz 1 R8.1
def Gb:Fn:=iso Fq
def Fb:Gt 1 "_law_whole" 1 Gb:=Gi R8.2
def Yr:Qm 2 "is_wholes" 2 2:=mq (·.T.F7) λZ n h=>zq (qo (ZY (gK .tup Z.B.jE Z.B.jm (by rfl) (zc 0)) (ZY (gj (gk h) (qM Z.B.qK (qg (zc 0))) (zc 1)) (Qp (YL rfl Z.B.YV (j7 (jG [] (jJ (zc 0)) (λ_ _ _=>zZ (Eh Z).up h (zp (zc 0) zt))))))))) zE
def KC:Fn:=qz 2 Yr.1
def ZA:Fn :=  KC
def Pn:Gt 2 "is_wholes" 2 ZA:=Yr.2
def VP:Qm 2 "count_shares" 3 7:=mq (·.T.IX) λZ n h=>zq (qc 3 n (zZ (W7 Z).up h (zp (zc 0) zt))) (zq (Qi 4 (N:=["kind","many"]) 1 [3] n rfl (cps) (by kernel_rfl) (jk rfl Z.B.qX (zc 3)) (λ_ _ _=>⟨ja 0 (kf),wu,wg (jg (qO (zp zC zt) (zA zO)) (zc 1))⟩)) (zq (jl PassesOwn.never rfl (JE rfl Z.B.JS (qh (zc 0) (zc 1)) (qh (zc 0) (zc 2))) (kP 5 6 rfl n) (zq (Bd (qh (zc 4) (zc 5)) (zc 6) zC) zE)) (zq (qo (jF Z.B.jm (j7 (jG [] (jJ (zc 4)) (λ_ _ _=>jF Z.B.jm (qg (zc 0))))))) zE)))
def I9:Fn:=qz 7 VP.1
def Yl:Fn:=iso I9
def VS:Gt 2 "count_shares" 3 Yl:=Gi VP.2
def V2:Qm 2 "count_sizes" 1 1:=mq (·.T.Hl) λZ n h=>zq (qo (gc (jG [0] (jk rfl Z.B.qX (zZ (W7 Z).up h (zp (zc 0) zt))) (λ_ _ _=>Oa (qh (zc 1) zC) (zc 0))))) zE
def Ht:Fn:=qz 1 V2.1
def QV:Fn:=iso Ht
def VW:Gt 2 "count_sizes" 1 QV:=Gi V2.2
def R4:Qm 2 "_law_sizes" 1 1:=mq (·.T.H9) λZ n h=>zq (qo (gc (jG [0] (jk rfl Z.B.qX (zZ (Yp Z).up h (zp (zc 0) zt))) (λ_ _ _=>Oa (qh (zc 1) zC) (zc 0))))) zE
def Fo:Fn:=qz 1 R4.1
def Ud:Fn:=iso Fo
def Ub:Gt 2 "_law_sizes" 1 Ud:=Gi R4.2
def Ge:Qm 2 "_law_state" 2 3:=mq (·.T.Fe) λZ n h=>zq (qc 2 n (zZ (IV Z).up h (zp (zc 0) (zp (zc 1) zt)))) (zq (jV (yo fc (zc 2) (Nn zC zC)) (zq (qo (qO (zp (ZE (zc 2) (Nn zC zC)) (zp ye zt)) (zA (zA zO)))) zE) zE) (zq (qo (qO (zp (wV (zc 2) zC) (zp ye zt)) (zA (zA zO)))) zE))
def Fc:Fn:=qz 3 Ge.1
def Yo:Fn :=  Fc
def FF:Gt 2 "_law_state" 2 Yo:=Ge.2
def RZ:Qm 2 "_law_beside" 2 8:=mq (·.T.Hz) λZ n h=>zq (NG 2 3 rfl n (zZ (Yp Z).up h (zp (zc 1) zt)) (qO zt zO)) (zq (jl PassesOwn.never rfl (jk rfl Z.B.qX (jg (qM Z.B.qK (qg (zc 0))) (qM Z.B.qK (qg (zc 1))))) (ja 4 n) (zq (qc 5 n (qO zt zO)) (zq (jl PassesOwn.never rfl (jk rfl Z.B.qX (jg (qM Z.B.qK (qg (zc 0))) (qM Z.B.qK (qg (zc 1))))) (ja 6 n) (zq (qc 7 n (qh (qh (zc 0) (g9 (zc 4) (qM Z.B.qK (qg (zc 1))))) (g9 (zc 6) (qM Z.B.qK (qg (zc 1)))))) (zq (yy (wt (zc 5) (jb (jg (zc 7) (zc 2)) (qh (qh (zc 1) (wV (zc 4) (qM Z.B.qK (qg (zc 1))))) (wV (zc 6) (qM Z.B.qK (qg (zc 1)))))))) zE))) (zq (yy (wt (zc 3) (jF Z.B.jm (qg (zc 5))))) zE)))) (zq (qo (jF Z.B.jm (qg (zc 3)))) zE))
def Hu:Fn:=qz 8 RZ.1
def RT:Fn:=iso Hu
def Hk:Gt 2 "_law_beside" 2 RT:=Gi RZ.2
def RX:Qm 2 "_law_within" 2 8:=mq (·.T.HP) λZ n h=>zq (NG 2 3 rfl n (ZE (zZ (Yp Z).up h (zp (zc 1) zt)) zC) (qO zt zO)) (zq (jl PassesOwn.never rfl (jk rfl Z.B.qX (jg (qM Z.B.qK (qg (zc 0))) (qM Z.B.qK (qg (zc 1))))) (ja 4 n) (zq (qc 5 n (qO zt zO)) (zq (jl PassesOwn.never rfl (jk rfl Z.B.qX (jg (qM Z.B.qK (qg (zc 0))) (qM Z.B.qK (qg (zc 1))))) (ja 6 n) (zq (qc 7 n (qh (qh (zc 0) (g9 (zc 4) (qM Z.B.qK (qg (zc 1))))) (g9 (zc 6) (qM Z.B.qK (qg (zc 1)))))) (zq (yy (wt (zc 5) (f7 (yo Lz (zc 7) zC) (jb (zc 7) (zc 2)) (qh (qh (zc 1) (wV (zc 4) (qM Z.B.qK (qg (zc 1))))) (wV (zc 6) (qM Z.B.qK (qg (zc 1)))))))) zE))) (zq (yy (wt (zc 3) (jF Z.B.jm (qg (zc 5))))) zE)))) (zq (qo (jF Z.B.jm (qg (zc 3)))) zE))
def Ho:Fn:=qz 8 RX.1
def R1:Fn:=iso Ho
def Hi:Gt 2 "_law_within" 2 R1:=Gi RX.2
def V9:Qm 2 "_law_mixed" 2 4:=mq (·.T.FP) λZ n h=>zq (qc 2 n (EA rfl Z.B.Wh Z.B.qX (zc 1))) (zq (qc 3 n (qO zt zO)) (zq (Dh 1000 PassesOwn.never (yo (ka h) (zc 2) (qO zt zO)) (zq (yy (wt (zc 3) (DW (zc 2) (zZ (Jt Z).up h (zp (zc 0) (zp (qM Z.B.qK (qg (zc 2))) zt)))))) zE)) (zq (qo (jF Z.B.jm (qg (zc 3)))) zE)))
def R6:Fn:=qz 4 V9.1
def Yq:Fn:=wj R6
def Ph:Gt 2 "_law_mixed" 2 Yq:=Gl V9.2
def V3:Qm 2 "_law_shares" 3 8:=mq (·.T.HD) λZ n h=>zq (qc 3 n (zZ (Yp Z).up h (zp (zc 0) zt))) (zq (qc 4 n (qO zt zO)) (zq (jl PassesOwn.never rfl (jk rfl Z.B.qX (zc 3)) (ja 5 n) (zq (qc 6 n (qO zt zO)) (zq (jl PassesOwn.never rfl (jk rfl Z.B.qX (zc 3)) (ja 7 n) (zq (yy (wt (zc 6) (PD (gc (jG [0,1,2,5,7] (jk rfl Z.B.qX (qM Z.B.qK (qg (zc 0)))) (λ_ _ _=>ZY (gj (gk h) (qh (qh (zc 1) (zc 2)) (zc 0)) (zc 4)) (Qp (gj (gk h) (qh (qh (zc 1) (zc 3)) (zc 0)) (zc 5)))))) ye))) zE)) (zq (yy (wt (zc 4) (zc 6))) zE)))) (zq (qo (zc 4)) zE)))
def Hy:Fn:=qz 8 V3.1
def V4:Fn :=  Hy
def Hm:Gt 2 "_law_shares" 3 V4:=V3.2
def VG:Qm 2 "_law_bad_table" 1 2:=mq (·.T.IH) λZ n h=>zq (qc 1 n (qO (zp Qn (zp zC (zp (jf zt zO) (zp (jf (zp (jf (zp zC zt) (zA zO)) zt) (zA zO)) (zp (jf (zp (jf (zp zC (zp zC zt)) (zA (zA zO))) (zp (jf (zp zC (zp zC zt)) (zA (zA zO))) (zp (jf (zp zC (zp zC zt)) (zA (zA zO))) zt))) (zA (zA (zA zO)))) (zp (jf (zp (jf (zp zC (zp zC zt)) (zA (zA zO))) (zp (jf (zp zC (zp zC zt)) (zA (zA zO))) zt)) (zA (zA zO))) (zp (jf (zp (jf (zp zC (zp zC zt)) (zA (zA zO))) (zp (jf (zp zC (zp zC zt)) (zA (zA zO))) zt)) (zA (zA zO))) (zp (qO (zp (jf (zp zC (zp zC zt)) (zA (zA zO))) (zp (jf (zp zC (zp zC zt)) (zA (zA zO))) zt)) (zA (zA zO))) zt)))))))) (zA (zA (zA (zA (zA (zA (zA (zA zO)))))))))) (zq (qc 1 n (jb (zc 1) (qO (zp (jf (zp (jf (zp zC (zp zC zt)) (zA (zA zO))) (zp (jf (zp zC (zp zC zt)) (zA (zA zO))) zt)) (zA (zA zO))) (zp (jf (zp (jf (zp zC (zp ye zt)) (zA (zA zO))) (zp (jf (zp ye (zp zC zt)) (zA (zA zO))) zt)) (zA (zA zO))) (zp (jf (zp (jf (zp zC (zp zC zt)) (zA (zA zO))) (zp (qO (zp zC (zp zC zt)) (zA (zA zO))) zt)) (zA (zA zO))) (zp (jf (zp (jf (zp zC (zp zC zt)) (zA (zA zO))) zt) (zA zO)) (zp YI (zp U4 (zp (Ou (jf (zp (Ou (jf (zp zC zt) (zA zO)) zC) zt) (zA zO)) zC) zt))))))) (zA (zA (zA (zA (zA (zA (zA zO)))))))))) (zq (qo (qh (zc 1) (zZ (Jt Z).up h (zp (zc 0) (zp zC zt))))) zE))
def RK:Fn:=qz 2 VG.1
def Jr:Fn :=  RK
def IK:Gt 2 "_law_bad_table" 1 Jr:=VG.2
def VZ:Qm 2 "_law_broken" 1 5:=mq (·.T.Hr) λZ n h=>zq (qc 1 n (jb zC (zZ (Jt Z).up h (zp (zc 0) (zp zC zt))))) (zq (Qi 2 (N:=["_law_row"]) 1 [] n rfl (cps) (by kernel_rfl) (jJ (zZ (Kz Z).up h (zp (zc 1) zt))) (λ_ _ _=>⟨ja 0 (kf),wu,wg (BC Z.B.Wh (qg (zc 0)))⟩)) (zq (qc 3 n (zZ (Jt Z).up h (zp (zc 0) (zp (zc 1) zt)))) (zq (qc 4 n (wV (jb (jb (zc 3) zC) (zZ (Jt Z).up h (zp (zc 0) (zp (ZE (zc 1) zC) zt)))) (zc 1))) (zq (G4 zC (qh (zc 2) (zc 3)) (zc 4)) (zq (G4 zC (qh (zc 2) (zc 4)) (zc 3)) (zq (qo (jF Z.B.jm (j7 (jG [] (jJ (zc 2)) (λ_ _ _=>jF Z.B.jm (qg (zc 0))))))) zE))))))
def Ga:Fn:=qz 5 VZ.1
def Yn:Fn:=wj Ga
def HH:Gt 2 "_law_broken" 1 Yn:=Gl VZ.2
def WX:Qm 3 "is_wholes_below" 3 3:=mq (·.T.Iw) λZ n h=>zq (qo (ZY (zZ (Pn Z).up h (zp (zc 0) (zp (zc 1) zt))) (Qp (YL rfl Z.B.YV (j7 (jG [2] (jJ (zc 0)) (λ_ _ _=>f5 SU Lr zC (zc 0) (zc 1)))))))) zE
def VE:Fn:=qz 3 WX.1
def QU:Fn :=  VE
def Iy:Gt 3 "is_wholes_below" 3 QU:=WX.2
def VY:Qm 3 "kind_shares" 1 3:=mq (·.T.HB) λZ n h=>zq (qc 1 n (zZ (RW Z).up h (zp (zc 0) zt))) (zq (Qi 2 (N:=["kind","firsts"]) 1 [1] n rfl (cps) (by kernel_rfl) (jk rfl Z.B.qX (zZ (W7 Z).up h (zp (zc 0) zt))) (λ_ _ _=>⟨ja 0 (kf),wu,wg (EZ h (zc 1) (zc 0))⟩)) (zq (qo (gc (JI (N:=["a","b","table"]) 2 [0] (jJ (zc 2)) (λ_ _ _=>⟨kP 0 1 rfl (kf),wu,wg (zZ (VS Z).up h (zp (zc 2) (zp (zc 0) (zp (zc 1) zt))))⟩)))) zE))
def Hw:Fn:=qz 3 VY.1
def V5:Fn:=iso Hw
def HM:Gt 3 "kind_shares" 1 V5:=Gi VY.2
def VQ:Qm 3 "search_break" 1 9:=mq (·.T.He) λZ n h=>zq (jl PassesOwn.never rfl (Dm (zZ (RW Z).up h (zp (zc 0) zt))) (DK 1 2 3 rfl n) (zq (qc 4 n (zZ (VS Z).up h (zp (zc 0) (zp (zc 2) (zp (zc 3) zt))))) (zq (jl PassesOwn.never rfl (JB rfl Z.B.Js (zc 0)) (kP 5 6 rfl n) (zq (jl PassesOwn.never rfl (JB rfl Z.B.Js (zc 6)) (kP 7 8 rfl n) (zq (jV (Q1 (U6 (yo (gk h) (zc 8) (zc 1)) (UA (yo (ka h) (zZ (VS Z).up h (zp (zc 0) (zp (zc 5) (zp (zc 7) zt)))) (zc 4))))) (zq (qo (jf (zp (zc 2) (zp (zc 3) (zp (zc 5) (zp (zc 7) zt)))) (zA (zA (zA (zA zO)))))) zE) zE) zE)) zE)) zE))) (zq (qo Qn) zE)
def RP:Fn:=qz 9 VQ.1
def Kw:Fn:=iso RP
def Ha:Gt 3 "search_break" 1 Kw:=Gi VQ.2
def V6:Qm 3 "count_often" 2 6:=mq (·.T.HA) λZ n h=>zq (qc 2 n zC) (zq (qc 3 n zC) (zq (jl PassesOwn.never rfl (JE rfl Z.B.JS (zZ (VW Z).up h (zp (zc 0) zt)) (zc 1)) (kP 4 5 rfl n) (zq (qc 2 n (jb (jg (zc 2) (zc 4)) (jg (jg (zc 5) (zc 5)) (zc 3)))) (zq (qc 3 n (jg (zc 3) (zc 4))) zE))) (zq (qo (g9 (jg (qM Z.B.qK (qg (zc 0))) (zc 3)) (zc 2))) zE)))
def HF:Fn:=qz 6 V6.1
def V1:Fn:=iso HF
def HU:Gt 3 "count_often" 2 V1:=Gi V6.2
def V7:Qm 3 "_law_often" 2 7:=mq (·.T.FC) λZ n h=>zq (qc 2 n (zZ (Ub Z).up h (zp (zc 0) zt))) (zq (U9 (jf (zp zC (zp zC zt)) (zA (zA zO))) (kP 3 4 rfl n)) (zq (jl PassesOwn.never rfl (JE rfl Z.B.JS (zc 2) (zc 1)) (kP 5 6 rfl n) (zq (qc 3 n (jb (jg (zc 3) (zc 5)) (jg (jg (zc 6) (zc 6)) (zc 4)))) (zq (qc 4 n (jg (zc 4) (zc 5))) zE))) (zq (qo (g9 (jg (qM Z.B.qK (qg (zc 0))) (zc 4)) (zc 3))) zE)))
def HZ:Fn:=qz 7 V7.1
def V8:Fn:=iso HZ
def HV:Gt 3 "_law_often" 2 V8:=Gi V7.2
def VB:Qm 3 "_law_turned_about" 2 4:=mq (·.T.Il) λZ n h=>zq (qc 2 n (zZ (Yp Z).up h (zp (zc 1) zt))) (zq (qc 3 n (jb (qO (zp zC zt) (zA zO)) (gc (jG [] (jJ (zZ (Ph Z).up h (zp (zc 0) (zp (ZE (zc 2) zC) zt)))) (λ_ _ _=>jb zC (zc 0)))))) (zq (qo (zZ (FL Z).up h (zp (zc 1) (zp (zZ (Ph Z).up h (zp (zc 0) (zp (qM Z.B.qK (qg (zc 1))) zt))) (zp (zc 3) zt))))) zE))
def RH:Fn:=qz 4 VB.1
def Zx:Fn:=wj RH
def RD:Gt 3 "_law_turned_about" 2 Zx:=Gl VB.2
def VR:Qm 3 "_law_numbers" 1 5:=mq (·.T.Hd) λZ n h=>zq (qc 1 n (qO zt zO)) (zq (jl PassesOwn.never rfl (jk rfl Z.B.qX (zZ (Yp Z).up h (zp (zc 0) zt))) (ja 2 n) (zq (jl PassesOwn.never rfl (jk rfl Z.B.qX (qM Z.B.qK (qg (zc 0)))) (ja 3 n) (zq (jl PassesOwn.never rfl (jk rfl Z.B.qX (qM Z.B.qK (qg (zc 0)))) (ja 4 n) (zq (jV (Q1 (U6 (yo (gk h) (qM Z.B.qK (qg (zc 1))) (zc 2)) (UA (yo (gk h) (qh (qh (zc 0) (zc 3)) (zc 4)) (zc 2))))) (zq (yy (wt (zc 1) (zZ (Hm Z).up h (zp (zc 0) (zp (zc 3) (zp (zc 4) zt)))))) zE) zE) zE)) zE)) zE)) (zq (qo (zc 1)) zE))
def IZ:Fn:=qz 5 VR.1
def RQ:Fn :=  IZ
def RR:Gt 3 "_law_numbers" 1 RQ:=VR.2
def KD:Qm 4 "is_table" 1 2:=mq (·.T.EO) λZ n h=>zq (jV (Q1 (Wg (Zb (wz (gK .tup Z.B.jE Z.B.jm (by rfl) (zc 0)))) (KR (Zb (f9 SU SU zC (qM Z.B.qK (qg (zc 0))) (Bx rfl Z.B.Hj.choose_spec)))))) (zq (qo ye) zE) zE) (zq (qc 1 n (qM Z.B.qK (qg (zc 0)))) (zq (jV (Zb (wz (YL rfl Z.B.YV (j7 (jG [1] (jJ (zc 0)) (λ_ _ _=>zZ (Iy Z).up h (zp (zc 0) (zp (zc 1) (zp (zc 1) zt))))))))) (zq (qo ye) zE) zE) (zq (qo (ZY (zZ (Dz Z).up h (zp (zc 0) zt)) (Qp (zZ (Ij Z).up h (zp (zc 0) zt))))) zE)))
def Gu:Fn:=qz 2 KD.1
def gF:Fn :=  Gu
def Ez:Gt 4 "is_table" 1 gF:=KD.2
def VI:Qm 4 "search_weights" 1 5:=mq (·.T.IL) λZ n H=>zq (qc 1 n (zZ (HM Z).up H (zp (zc 0) zt))) (zq (qc 2 n (qO (zp (jf (zp zC zt) (zA zO)) zt) (zA zO))) (zq (jl PassesOwn.never rfl (jJ (JA (zZ (VW Z).up H (zp (zc 0) zt)) (JF zC) JR)) (ja 3 n) (zq (Qi 4 (N:=["start","weight","size"]) 2 [3] n rfl (cps) (by kernel_rfl) (jJ (zc 2)) (λ_ _ _=>⟨ja 0 (kf),wu,Nb (λ_ _ z=>z) rfl rfl (by intro _ h;cases h<;>rfl) (Cu rfl Z.B.qX (zc 2) (ZE (Nq (zc 2)) zC)) (ja 1 (kf)) wu (wg (jb (zc 0) (jf (zp (zc 1) zt) (zA zO))))⟩)) (zq (Qi 2 (N:=["start","shares"]) 1 [1] n rfl (cps) (by kernel_rfl) (jJ (zc 4)) (λ_ _ _=>⟨ja 0 (kf),Uz (wz (zZ (iS Z).up H (zp (zc 1) (zp (zc 0) zt)))),wg (zc 0)⟩)) zE))) (zq (qo (zc 2)) zE)))
def IE:Fn:=qz 5 VI.1
def W0:Fn:=iso IE
def RL:Gt 4 "search_weights" 1 W0:=Gi VI.2
def VJ:Qm 4 "_law_whole_one" 1 3:=mq (·.T.IC) λZ n h=>zq (qc 1 n (zZ (Jt Z).up h (zp (zc 0) (zp zC zt)))) (zq (qc 2 n (qO (zp (zZ (Kz Z).up h (zp zC zt)) (zp (zZ (Gg Z).up h (zp zC zt)) (zp (zZ (Gg Z).up h (zp zC zt)) (zp (zZ (HN Z).up h (zp zC (zp zC zt))) (zp (zZ (HL Z).up h (zp zC zt)) (zp (zZ (IP Z).up h (zp zC zt)) zt)))))) (zA (zA (zA (zA (zA (zA zO)))))))) (zq (qc 2 n (jb (zc 2) (qO (zp (zZ (Fz Z).up h (zp zC zt)) (zp (zZ (Hk Z).up h (zp (zZ (Kz Z).up h (zp zC zt)) (zp (zZ (Kz Z).up h (zp zC zt)) zt)) (zA (zA zO))) (zp (zZ (Hi Z).up h (zp (zZ (Kz Z).up h (zp zC zt)) (zp (zZ (Gg Z).up h (zp zC zt)) zt)) (zA (zA zO))) zt))) (zA (zA (zA zO)))))) (zq (qo (zZ (RD Z).up h (zp (zc 0) (zp (qh (zc 2) (zc 1)) zt)))) zE)))
def IG:Fn:=qz 3 VJ.1
def Yj:Fn:=wj IG
def IA:Gt 4 "_law_whole_one" 1 Yj:=Gl VJ.2
def VD:Qm 4 "_law_are_weights" 2 6:=mq (·.T.Im) λZ n h=>zq (qc 2 n (zZ (RR Z).up h (zp (zc 0) zt))) (zq (jV (Q1 (Wg (Zb (wz (gK .tup Z.B.jE Z.B.jm (by rfl) (zc 1)))) (KR (yo (ka h) (qM Z.B.qK (qg (zc 1))) (qM Z.B.qK (qg (zc 2))))))) (zq (qo ye) zE) zE) (zq (jV (Q1 (Wg (Zb (wz (YL rfl Z.B.YV (j7 (jG [] (jJ (zc 1)) (λ_ _ _=>zZ (Fb Z).up h (zp (zc 0) zt))))))) (KR (yo (ka h) (qh (zc 1) zC) zC)))) (zq (qo ye) zE) zE) (zq (jl PassesOwn.never rfl (jk rfl Z.B.qX (qM Z.B.qK (qg (zc 1)))) (ja 3 n) (zq (jl PassesOwn.never rfl (jk rfl Z.B.qX (qM Z.B.qK (qg (zc 1)))) (ja 4 n) (zq (qc 5 n (KY rfl Z.B.Wl (j7 (jG [1,2,3,4] (jk rfl Z.B.qX (qM Z.B.qK (qg (zc 1)))) (λ_ _ _=>jg (qh (qh (qh (zc 2) (zc 0)) (zc 3)) (zc 4)) (qh (zc 1) (zc 0))))))) (zq (jV (yo (ka h) (jg (qh (zc 1) (zc 3)) (qh (zc 1) (zc 4))) (zc 5)) (zq (qo ye) zE) zE) zE))) zE)) (zq (qo ye) zE))))
def RI:Fn:=qz 6 VD.1
def Yh:Fn :=  RI
def Ip:Gt 4 "_law_are_weights" 2 Yh:=VD.2
def HW (Z:Zz K h mg):qR P w K mg base 1 "_law_same" 2 Pe:=by obtain⟨f,fd,F,a⟩:=Z.T.Gm;exact(Gf (k:=0) Z.B F (mg_of Z.X Z.G a) (ij (ps:=["_law_found","_law_due_here"]) F (mg_of Z.X Z.G a) (λ_ _ _ _ _ _=>Km λ_ _=>rfl)))
def FJ (Z:Zz K h mg):qR P w K mg base 2 "_law_same" 2 Pb:=by obtain⟨f,fd,F,a⟩:=Z.T.Gm;exact(Gf (k:=1) Z.B F (mg_of Z.X Z.G a) (HW Z))
def FK (Z:Zz K h mg):qR P w K mg base 3 "_law_same" 2 Pc:=by obtain⟨f,fd,F,a⟩:=Z.T.Gm;exact(Gf (k:=2) Z.B F (mg_of Z.X Z.G a) (FJ Z))
def F3 (Z:Zz K h mg):qR P w K mg base 4 "_law_same" 2 Qj:=by obtain⟨f,fd,F,a⟩:=Z.T.Gm;exact(Gf (k:=3) Z.B F (mg_of Z.X Z.G a) (FK Z))
def Up:Qm 4 "_law_due" 3 8:=mq (·.T.Ej) λZ n h=>zq (qc 3 n (qO zt zO)) (zq (qc 4 n (zZ (Ub Z).up h (zp (zc 0) zt))) (zq (jl PassesOwn.never rfl (jk rfl Z.B.qX (qM Z.B.qK (qg (zc 4)))) (ja 5 n) (zq (qc 6 n zC) (zq (jl PassesOwn.never rfl (jk rfl Z.B.qX (qM Z.B.qK (qg (zc 1)))) (ja 7 n) (zq (qc 6 n (jb (zc 6) (jg (jg (qh (zc 2) (zc 7)) (zZ (HV Z).up h (zp (zc 0) (zp (qh (zc 1) (zc 7)) zt)))) (qh (qh (zc 1) (zc 7)) (zc 5))))) zE)) (zq (jV (yo (ka h) (wV (zc 6) (jg (qM Z.B.qK (qg (zc 0))) (qh (zc 4) (zc 5)))) zC) (zq (qo Qn) zE) zE) (zq (yy (wt (zc 3) (g9 (zc 6) (jg (qM Z.B.qK (qg (zc 0))) (qh (zc 4) (zc 5)))))) zE))))) (zq (qo (jF Z.B.jm (qg (zc 3)))) zE)))
def EI:Fn:=qz 8 Up.1
def Jv:Fn :=  EI
def Ep:Gt 4 "_law_due" 3 Jv:=Up.2
def W4:Qx 5 "require_table" 1 1:=⟨_,λZ=>gY Z Z.T.IT λn h x=>zq (jV (UT (Zb (wz (zZ (Ez Z).up h (zp (zc 0) zt))))) (zq (Gq x (Z.C.exc "NoTable" (by decide +kernel)) (zp YI zt) (zA zO)) zE) zE) zE⟩
def VH:Fn:=gm 1 W4.1
def II (Z:Zz K h mg):yw P w K mg base 5 "require_table" 1 VH:=W4.2 Z
def VC:Qm 5 "_law_all_weights" 1 11:=mq (·.T.Iq) λZ n h=>zq (U9 (jf (zp (zZ (RR Z).up h (zp (zc 0) zt)) (zp (zZ (Ub Z).up h (zp (zc 0) zt)) zt)) (zA (zA zO))) (kP 1 2 rfl n)) (zq (qc 3 n (qO (zp (jf (zp zC zt) (zA zO)) zt) (zA zO))) (zq (jl PassesOwn.never rfl (GF rfl Z.B.qX zC (qM Z.B.qK (qg (zc 2)))) (ja 4 n) (zq (qc 5 n (qO zt zO)) (zq (jl PassesOwn.never rfl (jJ (zc 3)) (ja 6 n) (zq (yy (Pz (zc 5) (gc (jG [6] (GF rfl Z.B.qX (ZE zC (qh (zc 2) (zc 4))) (jb (qh (zc 2) (zc 4)) zC)) (λ_ _ _=>jb (zc 1) (jf (zp (zc 0) zt) (zA zO))))))) zE)) (zq (qc 3 n (qO zt zO)) (zq (jl PassesOwn.never rfl (jJ (zc 5)) (ja 6 n) (zq (qc 7 n ye) (zq (jl PassesOwn.never rfl (jk rfl Z.B.qX (jb (zc 4) zC)) (ja 8 n) (zq (Qi 9 (N:=["_law_k","_law_numbers_here","_law_kind","_law_i"]) 1 [1,4,8] n rfl (cps) (by kernel_rfl) (GF rfl Z.B.qX (jb (zc 4) zC) (qM Z.B.qK (qg (zc 2)))) (λ_ _ _=>⟨ja 0 (kf),wu,wg (qh (qh (qh (zc 1) (zc 0)) (zc 3)) (zc 2))⟩)) (zq (jV (yo (gk h) (YC rfl Z.B.JW (qg (jb (zc 9) (qO (zp zC zt) (zA zO))))) zC) (zq (qc 10 n (KY rfl Z.B.Wl (j7 (jG [1,4,6,8] (jk rfl Z.B.qX (jb (zc 4) zC)) (λ_ _ _=>jg (qh (qh (qh (zc 1) (zc 0)) (zc 4)) (zc 2)) (qh (zc 3) (zc 0))))))) (zq (qc 7 n (ZY (zc 7) (Qp (gj (gk h) (jg (qh (zc 6) (zc 8)) (qh (zc 6) (zc 4))) (zc 10))))) zE)) zE) zE))) (zq (jV (wz (zc 7)) (zq (yy (wt (zc 3) (zc 6))) zE) zE) zE)))) zE))))) (zq (qo (Cd (E5 rfl Z.B.BJ (gc (JI (N:=["_law_row","_law_table"]) 1 [0] (jJ (zc 3)) (λ_ _ _=>⟨ja 0 (kf),Uz (wz (zZ (Ip Z).up h (zp (zc 1) (zp (zc 0) zt)))),wg (zc 0)⟩)))) (Nq zC))) zE)))
def RJ:Fn:=qz 11 VC.1
def Jq:Fn:=iso RJ
def Io:Gt 5 "_law_all_weights" 1 Jq:=Gi VC.2
def Kt:Qx 6 "require_steady" 1 1:=⟨_,λZ=>gY Z Z.T.IF λn h x=>zq (yy (Jz x (II Z).up h (zp (zc 0) zt))) (zq (jV (UT (yo BR (zZ (Ha Z).up h (zp (zc 0) zt)) Qn)) (zq (Gq x (Z.C.exc "NotSteady" (by decide +kernel)) (zp YI zt) (zA zO)) zE) zE) zE)⟩
def QT:Fn:=gm 1 Kt.1
def Iu (Z:Zz K h mg):yw P w K mg base 6 "require_steady" 1 QT:=Kt.2 Z
def W3:Qx 7 "is_whole_table" 1 1:=⟨_,λZ=>gY Z Z.T.IJ λn h x=>zq (yy (Jz x (Iu Z).up h (zp (zc 0) zt))) (OO (zq (qo (gj (gk h) (qM Z.B.qK (qg (zZ (RL Z).up h (zp (zc 0) zt)))) (zZ (W7 Z).up h (zp (zc 0) zt)))) zE))⟩
def VF:Fn:=gm 1 W3.1
def Iv (Z:Zz K h mg):yw P w K mg base 7 "is_whole_table" 1 VF:=W3.2 Z
def Ku:Qx 8 "require_whole" 1 1:=⟨_,λZ=>gY Z Z.T.IU λn h x=>zq (jV (Zb (wz (Jz x (Iv Z).up h (zp (zc 0) zt)))) (zq (Gq x (Z.C.exc "NotWhole" (by decide +kernel)) (zp YI zt) (zA zO)) zE) zE) zE⟩
def Yi:Fn:=gm 1 Ku.1
def Iz (Z:Zz K h mg):yw P w K mg base 8 "require_whole" 1 Yi:=Ku.2 Z
def KP:Qx 9 "mix_by" 2 8:=⟨_,λZ=>gY Z Z.T.Ce λn h x=>zq (yy (Jz x (Iz Z).up h (zp (zc 0) zt))) (zq (qc 2 n (AL (zZ (RL Z).up h (zp (zc 0) zt)))) (zq (jV (UT (Zb (wz (zZ (Pn Z).up h (zp (zc 1) (zp (qM Z.B.qK (qg (zc 2))) zt)))))) (zq (Gq x (Z.C.exc "NoNumbers" (by decide +kernel)) (zp YI zt) (zA zO)) zE) zE) (OO (zq (Qi 3 (N:=["weights","wanted","table"]) 2 [0] n rfl (cps) (by kernel_rfl) (JE rfl Z.B.JS (zc 2) (zc 1)) (λ_ _ _=>⟨kP 0 1 rfl (kf),wu,wg (jg (zZ (HU Z).up h (zp (zc 2) (zp (zc 0) zt))) (zc 1))⟩)) (zq (qc 4 n (qO zt zO)) (zq (jl PassesOwn.never rfl (JB rfl Z.B.Js (zZ (VW Z).up h (zp (zc 0) zt))) (kP 5 6 rfl n) (zq (qc 7 n (KY rfl Z.B.Wl (j7 (JI (N:=["part","weights","kind"]) 2 [5] (JE rfl Z.B.JS (zc 3) (zc 2)) (λ_ _ _=>⟨kP 0 1 rfl (kf),wu,wg (jg (zc 0) (qh (zc 1) (zc 2)))⟩))))) (zq (jV (yo (ka h) (wV (zc 7) (jg (qM Z.B.qK (qg (zc 0))) (zc 6))) zC) (zq (qo Qn) zE) zE) (zq (yy (wt (zc 4) (g9 (zc 7) (jg (qM Z.B.qK (qg (zc 0))) (zc 6))))) zE)))) (zq (qo (jF Z.B.jm (qg (zc 4)))) zE)))))))⟩
def yY:Fn:=gm 8 KP.1
def Ql:Fn:=iso (λw A=>(yY w A).nox)
def Ux (Z:Zz K h mg):yw P w K mg base 9 "mix_by" 2 yY:=KP.2 Z
def BF (Z:Zz K h mg):qR P w K mg base 9 "mix_by" 2 Ql:=(Ux Z).m.iso
end
end G
namespace Mi
open PySem L2
abbrev iV (n:Int):Option W:=some (.int n)
noncomputable abbrev rO (n:Nat):Option W:=some (.ref n)
section
variable {m:Ev}
def Q4 (h:m ρ A=.ok (.tup ws) A1):qI m ρ A=.ok ⟨λA i=>(zI (.tup ws) A).map λws=>ws[i]?,ws.length⟩ A1:=by
 unfold qI Wy;rw[h,zK]
 rfl
def Yy (h:m ρ A=.ok (.tup ws) A)(l:ws.length<=zX){g:W->W}(a:∀w∈ws,me (some w::cap.map λi=>(ρ[i]?).join) A=.ok (g w) A):
  qy 1 cap (qI m) (zM 0) (zW (.bl true)) (qe me) ρ A=.ok (ws.map g) A:=by
 have e:=w9 (cap:=cap) (me:=me) (ρ:=ρ) (A:=A) (N:=ws.length) (item:=λi=>ws.getD i .non) (g:=λi=>g (ws.getD i .non)) (Q4 h) rfl l
  (λi H=>by show some ws[i]? =_;rw[ae H,aa,ae H];rfl)
  (by show some ws[ws.length]? =_;rw[az (ao _)])
  (λi H=>by
   have:ws.getD i .non=ws[i]:=by rw[aa,ae H];rfl
   rw[this];exact a _ (aK H))
 rw[e]
 congr 1
 apply a9
 ·simp
 ·intro i c b
  have H:i<ws.length:=by simpa using b
  simp[aa,ae H]
theorem Gv (p:α->Bool):∀l:List α,gJ (l.map λx=>W.bl (p x))=some (l.map p)
 |[]=>rfl|x::l=>by
  show(match Y7 (.bl (p x)),gJ (l.map λx=>W.bl (p x)) with|some k,some K=>some (k::K)|_,_=>none)=_
  rw[Gv p l];rfl
def K4 {p:α->Bool}{l:List α}(h:∀x∈l,p x=true):Y9 (l.map λx=>W.bl (p x)) A=.ok (.bl true) A:=by
 show Zg (λK=>K.all id) _ A=_;unfold Zg;rw[Gv];dsimp only
 have:(l.map p).all id=true:=by rw[all_map];exact cy.mpr λx H=>h x H
 rw[this]
theorem Qo {f:α->W}(h:∀x,(f x).nr=true):∀l:List α,qQ (l.map f)=true
 |[]=>rfl|x::l=>by show((f x).nr&&qQ (l.map f))=true;rw[h x,Qo h l];rfl
def gz (i j:Int)(A:Hx):yi (.int i) (.int j) A=.ok (.bl (decide (i=j))) A:=by
 show R.ok (W.bl (PyData.eqv (.int i) (.int j))) A=_;simp[PyData.eqv]
 rfl
def Jl (i j:Int)(A:Hx):je (.int i) (.int j) A=.ok (.bl (!decide (i=j))) A:=by
 show R.ok (W.bl (!PyData.eqv (.int i) (.int j))) A=_;simp[PyData.eqv]
 rfl
def LX (i j:Bool)(A:Hx):je (.bl i) (.bl j) A=.ok (.bl (!(i==j))) A:=by cases i<;>cases j<;>rfl
end
noncomputable def zo (r:bR):W:=.tup (r.map W.int)
def zm (t:bQ):W:=.tup (t.map zo)
def JH (r:bR):(zo r).nr=true:=by show qQ (r.map W.int)=true;exact Qo (λ_=>rfl) r
def ZZ (t:bQ):(zm t).nr=true:=by show qQ (t.map zo)=true;exact Qo JH t
def Ob {st:W->Ex}{N:Nat}{item:Nat->W}{I:En->Prop}(t:∀i,i<N->j.at_ A i=some (some (item i)))(H:j.at_ A N=some none)
  (e:∀i,i<N->∀o,I o->∃a,st (item i) o A=.ok (.nx a) A/\I a):∀(n i:Nat)(o:En),i+n=N->I o->∃a,j3 j st n i o A=.ok (.nx a) A/\I a:=by
 intro n
 induction n with
 |zero=>
  intro i o h c
  have:i=N:=by lia
  subst this;exact⟨o,Uj H,c⟩
 |succ n d=>
  intro i o h c;obtain⟨p,f,l⟩:=e i (by lia) o c
  obtain⟨b,E,g⟩:=d (i+1) p (by lia) l
  exact⟨b,(GJ (t i (by lia)) f).trans E,g⟩
def Yv {m:Ev}(h:m ρ A=.ok (.tup ws) A1):Zf m ρ A=.ok (yC (.tup ws) ws.length) A1:=by
 unfold Zf;rw[h,zK]
 rfl
def YW {w:W}(h:ws[i]? =some w):(yC (.tup ws) ws.length).at_ A i=some (some (.tup [.int i,w])):=by show atEnd ws i _=_;unfold atEnd;rw[h]
def YT:(yC (.tup ws) ws.length).at_ A ws.length=some none:=by show atEnd ws _ _=_;unfold atEnd;rw[az (ao _)];exact ai rfl
noncomputable def at2 (t:bQ)(a b:Nat):Int:=(t.getD a []).getD b 0
structure qm (t:bQ):Prop where
 n1:1<=t.length
 n8:t.length<=8
 sq:∀r∈t,r.length=t.length
 lo:∀r∈t,∀v∈r,0<=v/\v<(t.length:Int)
 dg:∀a b,a<t.length->b<t.length->(at2 t a b=0↔a=b)
 sy:∀a b,a<t.length->b<t.length->at2 t a b=at2 t b a
 fu:∀k:Nat,(∃v∈t.flatten,(k:Int)<v)->(k:Int)∈t.flatten
section
variable {a b:Nat}
def Qy (h:a<t.length:=by lia):(t.map zo)[a]? =some (zo (t.getD a [])):=by rw[ay,aa,ae h];rfl
def kz (h:a<t.length:=by lia):t.getD a []∈t:=by rw[aa,ae h];exact aK h
def JO (h:a<t.length):zD (zm t) (.int a) A=.ok (zo (t.getD a [])) A:=by
 unfold zD;show(match gw (t.map zo) (a:Int) with|some w=>R.ok w A|none=>R.bad)=_
 rw[GV (Qy h)]
def int_at {r:bR}(h:b<r.length:=by lia):(r.map W.int)[b]? =iV (r.getD b 0):=by rw[ay,aa,ae h];rfl
def wC {r:bR}(h:b<r.length:=by lia):zD (zo r) (.int b) A=.ok (.int (r.getD b 0)) A:=by
 unfold zD;show(match gw (r.map W.int) (b:Int) with|some w=>R.ok w A|none=>R.bad)=_
 rw[GV (v:=.int (r.getD b 0)) (by rw[ay,aa,ae h];rfl)]
end
section
def CZ {c:Option W}(b:∀i,i<ws.length->j.at_ A i=some (some (ws.getD i .non)))(H:j.at_ A ws.length=some none)(n:∀w,me [c,some w] A=.ok w A):
  ∀(f i:Nat)(x:Option W)(g:List W),i+f=ws.length->g.length+f<=zX->∃y,jc j (zM 1) (zW (.bl true)) (qe me) f i [c,x] g A=.ok ([c,y],g++ws.drop i) A:=by
 intro f
 induction f with
 |zero=>
  intro i x g h l
  have:i=ws.length:=by lia
  subst this;refine⟨x,?_⟩;unfold jc;rw[H,drop_length,aX]
 |succ f I=>
  intro i x g h l;have a:i<ws.length:=by lia
  have E:ws.getD i .non=ws[i]:=by rw[aa,ae a];rfl
  obtain⟨y,e⟩:=I (i+1) (some ws[i]) (g++[ws[i]]) (by lia) (by rw[au,aU];lia)
  refine⟨y,?_⟩;rw[jc,b i a,E];dsimp only[zM,List.set,zW];rw[zK];dsimp only;have d:qe me [c,some ws[i]] g A=.ok ([c,some ws[i]],g++[ws[i]]) A:=by unfold qe;rw[n,zK,ai (by lia)]
  rw[d,zK];rw[e,aP]
  congr 3
  rw[List.singleton_append,<- List.drop_eq_getElem_cons a]
def DE (d:∀i,i<t.length->j.at_ A i=some (some (zo (t.getD i []))))(H:j.at_ A t.length=some none):
  ∀(f i:Nat)(x y:Option W)(o:List W),i+f=t.length->o.length+(t.drop i).flatten.length<=zX->
   ∃ρ,jc j (zM 0) (zW (.bl true)) (Jb (qI (zS 0)) (zM 1) (zW (.bl true)) (qe (zS 1))) f i [x,y] o A=.ok (ρ,o++(t.drop i).flatten.map W.int) A:=by
 intro f
 induction f with
 |zero=>
  intro i x y o h l
  have:i=t.length:=by lia
  subst this;refine⟨[x,y],?_⟩;unfold jc;rw[H,drop_length];simp
 |succ f I=>
  intro i x y o h l;have a:i<t.length:=by lia
  have r:t.getD i []=t[i]:=by rw[aa,ae a];rfl
  have e:t.drop i=t[i]::t.drop (i+1):=List.drop_eq_getElem_cons a;rw[e,a8,au]at l;obtain⟨z,E⟩:=CZ (A:=A) (j:=⟨λA i_1=>(zI (zo t[i]) A).map λp=>p[i_1]?,(t[i].map W.int).length⟩) (me:=zS 1) (ws:=t[i].map W.int) (c:=some (zo t[i]))
   (λk b=>by show some (t[i].map W.int)[k]? =_;rw[aa,ae b];rfl)
   (by show some (t[i].map W.int)[(t[i].map W.int).length]? =_;rw[az (ao _)])
   (λw=>zj rfl) (t[i].map W.int).length 0 y o (by lia) (by rw[af];lia)
  rw[List.drop_zero]at E;obtain⟨ρ,n⟩:=I (i+1) (some (zo t[i])) z (o++t[i].map W.int) (by lia) (by rw[au,af];lia)
  refine⟨ρ,?_⟩;rw[jc,d i a,r];dsimp only[zM,List.set,zW];rw[zK];dsimp only;have g:Jb (qI (zS 0)) (zM 1) (zW (.bl true)) (qe (zS 1)) [some (zo t[i]),y] o A=.ok ([some (zo t[i]),z],o++t[i].map W.int) A:=by unfold Jb;rw[Q4 (ws:=t[i].map W.int) (A1:=A) (zj (i:=0) rfl),zK];exact E
  rw[g,zK];rw[n,e,a8,aN,aP]
def iT {m:Ev}(h:m ρ A=.ok (zm t) A)(H:t.flatten.length<=zX):
  qy 2 [] (qI m) (zM 0) (zW (.bl true)) (Jb (qI (zS 0)) (zM 1) (zW (.bl true)) (qe (zS 1))) ρ A=.ok (t.flatten.map W.int) A:=by
 have n:(t.map zo).length=t.length:=af ..;obtain⟨a,e⟩:=DE (t:=t) (A:=A) (j:=⟨λA i=>(zI (zm t) A).map λw=>w[i]?,(t.map zo).length⟩) (λi b=>by show some (t.map zo)[i]? =_;rw[Qy b])
  (by show some (t.map zo)[t.length]? =_;rw[az (by lia)]) t.length 0 none none [] (by lia) (by simpa using H)
 unfold qy;rw[Q4 (ws:=t.map zo) h,zK];show R.bind (R.nox (jc ⟨λA i=>(zI (zm t) A).map λw=>w[i]?,(t.map zo).length⟩ _ _ _ (t.map zo).length 0 [none,none] [] A)) _=_;rw[n]at e ⊢;rw[e];simp
 rfl
end
theorem KA:∀l:bR,intsOf (l.map W.int)=some l
 |[]=>rfl|i::l=>by
  show(match intsOf (l.map W.int) with|some I=>some (i::I)|none=>none)=_
  rw[KA l]
theorem UG:∀(l:bR)(m:Int),yu l m=m∨yu l m∈l
 |[],_=>.inl rfl|i::l,m=>by
  show yu l (if i > m then i else m)=m∨yu l (if i > m then i else m)∈i::l;rcases UG l (if i > m then i else m) with e|e
  ·by_cases h:i > m
   ·rw[ai h]at e ⊢;exact .inr (by rw[e];exact aG ..)
   ·rw[aj h]at e ⊢;exact .inl e
  ·exact .inr (aA _ e)
end Mi
namespace G
open PySem L2 Mi
def Bk (h:qm t):t.flatten.length<=64:=by
 have:∀l:bQ,(∀r∈l,r.length<=8)->l.flatten.length<=8 * l.length:=by
  intro l
  induction l with
  |nil=>intro _;simp|cons r l i=>
   intro H;have e:=H r (aG ..);have d:=i λb a=>H b (aA _ a);rw[a8,au,bc];lia
 have c:=h.n8
 have:=this t λr H=>by rw[h.sq r H];exact h.n8
 lia
abbrev iO (n:Nat):Option W:=some (.int (n:Int))
abbrev bO (b:Bool):Option W:=some (.bl b)
section
def iU (h:ρ[i]? =some (some (zm t))):mQ qf (zN (zS i)) ρ A=.ok (.int t.length) A:=by rw[jP (yc (w:=zm t) (A1:=A) (zj h) rfl)];unfold qf;rw[af]
def ZW (h:n<1000000:=by lia):jv (n:Int)=true:=by unfold jv;simp;lia
end
def Qq {m:Ev}(h:m ρ A=.ok (.ref n) A1)(H:A1[n]? =some (.lst ws)):qI m ρ A=.ok ⟨λA i=>(zI (.ref n) A).map λws=>ws[i]?,ws.length⟩ A1:=by
 unfold qI Wy;rw[h,zK];have e:zI (.ref n) A1=some ws:=by unfold zI;dsimp only;rw[H]
 rw[e]
def kZ (h:A[n]? =some (.lst ws)):((zI (.ref n) A).map λws=>ws[i]?)=some ws[i]?:=by
 have e:zI (.ref n) A=some ws:=by unfold zI;dsimp only;rw[h]
 rw[e];rfl
def kJ:List Int->Int
 |[]=>0|i::is=>yu is i
def UW {r:bR}(h:r≠[]):gq (r.map W.int) A=.ok (.int (kJ r)) A:=by
 unfold gq;rw[KA];cases r with|nil=>exact absurd rfl h|cons i I=>rfl
def GI {r:bR}(h:r≠[]):kJ r∈r:=by
 cases r with
 |nil=>exact absurd rfl h|cons i I=>
  rcases UG I i with e|e
  ·show yu I i∈_;rw[e];exact aG ..
  ·exact aA _ e
def qb (t:bQ):Int:=kJ (t.map kJ)+1
section
def _root_.Mi.qm.row_ne (h:qm t){r:bR}(H:r∈t):r≠[]:=λe=>by have a:=h.sq r H;have b:=h.n1;rw[e,List.length_nil]at a;lia
def _root_.Mi.qm.map_ne (h:qm t):t.map kJ≠[]:=λe=>by
 have:=h.n1
 rw[List.map_eq_nil_iff]at e;rw[e]at this;simp at this
def kH (h:qm t):1<=qb t/\qb t<=8:=by
 obtain⟨r,H,e⟩:=cx.mp (GI h.map_ne)
 have:=h.lo r H _ (GI (h.row_ne H))
 have:=h.n8
 unfold qb;rw[<- e];lia
def YX (h:qm t){a b:Nat}(H:a<t.length)(d:b<t.length):0<=at2 t a b/\at2 t a b<8:=by
 have c:=h.sq _ (kz H)
 have:(t.getD a []).getD b 0∈t.getD a []:=by rw[aa (l:=t.getD a []),ae (by lia)];exact aK _
 have e:=h.lo _ (kz H) _ this
 have:=h.n8
 unfold at2;lia
def Ze (h:q ρ A=.ok ws A1):mQ jS q ρ A=.ok (.tup ws) A1:=(jP h).trans rfl
end
end G
namespace Mi
open PySem L2
def wM {w:W}{s:Nat}(h:A[n]? =some (.lst ws))(H:ws[s]? =some w):zD (.ref n) (.int s) A=.ok w A:=by
 unfold zD;have e:zI (.ref n) A=some ws:=by unfold zI;dsimp only;rw[h]
 rw[e];dsimp only;rw[GV H]
def ju {o u:O}(h:A[n]? =some o):(A++[u])[n]? =some o:=by
 have:=(cu.mp h).1
 rw[ah this];exact h
def qB {u:O}:(A++[u])[A.length]? =some u:=by simp
def JY (c:Nat->Nat->Int)(a b:Nat)(k:Int):Nat->Nat->Int:=λi j=>if i=a/\j=b then k else c i j
structure Mu (n:Nat)(μ:Nat->Nat->Int)(c:Nat)(done:Nat->Nat->Prop):Prop where
 dg:∀i,μ i i=0
 sy:∀i j,μ i j=μ j i
 dn:∀i j,i<j->j<n->done i j->1<=μ i j/\μ i j<=(c:Int)
 un:∀i j,i<j->j<n->¬done i j->μ i j=0
 fu:∀k:Nat,1<=k->k<=c->∃i j,i<n/\j<n/\μ i j=(k:Int)
noncomputable def j5 (n:Nat)(a:Nat->Nat->Int):bQ:=(List.range n).map λi=>(List.range n).map (a i)
def K0 {a:Nat->Nat->Int}{j:Nat}(H:i<n)(h:j<n):at2 (j5 n a) i j=a i j:=by
 unfold at2 j5;rw[aa (l:=(List.range n).map λi=>(List.range n).map (a i)),ay,aQ H];show((List.range n).map (a i)).getD j 0=_;rw[aa,ay,aQ h]
 rfl
def Mu.tab {c:Nat}{B:Nat->Nat->Int}{d:Nat->Nat->Prop}(h:Mu n B c d)(all:∀i j,i<j->j<n->d i j)(D:1<=n)(C:n<=8)(A:n=1∨c<n):qm (j5 n B):=by
 have len:(j5 n B).length=n:=by unfold j5;simp
 have val:∀i j,i<n->j<n->i≠j->1<=B i j/\B i j<=(c:Int):=λi j H f N=>by
  rcases Nat.lt_or_gt_of_ne N with q|q
  ·exact h.dn i j q f (all i j q f)
  ·rw[h.sy];exact h.dn j i q H (all j i q H)
 have mem:∀r∈j5 n B,∀v∈r,∃i j,i<n/\j<n/\v=B i j:=λr g v p=>by unfold j5 at g;obtain⟨i,H,rfl⟩:=cx.mp g;obtain⟨j,f,rfl⟩:=cx.mp p;exact⟨i,j,cm.mp H,cm.mp f,rfl⟩
 have I:∀i j,i<n->j<n->B i j∈(j5 n B).flatten:=λi j H f=>List.mem_flatten.mpr ⟨_,cx.mpr ⟨i,cm.mpr H,rfl⟩,cx.mpr ⟨j,cm.mpr f,rfl⟩⟩;refine⟨by rw[len];exact D,by rw[len];exact C,λr g=>?_,λr g v p=>?_,λa b o l=>?_,λa b o l=>?_,λk z=>?_⟩
 ·rw[len]
  unfold j5 at g;obtain⟨i,H,rfl⟩:=cx.mp g;simp
 ·rw[len]
  obtain⟨i,j,H,f,rfl⟩:=mem r g v p
  by_cases q:i=j
  ·subst q;rw[h.dg];lia
  ·have:=val i j H f q
   lia
 ·rw[len]at o l
  rw[K0 o l]
  constructor
  ·intro e
   by_cases q:a=b
   ·exact q
   ·have:=val a b o l q;lia
  ·intro e;subst e;exact h.dg a
 ·rw[len]at o l
  rw[K0 o l,K0 l o];exact h.sy a b
 ·obtain⟨v,p,u⟩:=z
  obtain⟨r,g,t⟩:=List.mem_flatten.mp p;obtain⟨i,j,H,f,rfl⟩:=mem r g v t
  by_cases K:k=0
  ·subst K
   have:=I 0 0 (by lia) (by lia)
   rw[h.dg]at this;exact this
  ·by_cases q:i=j
   ·subst q;rw[h.dg]at u;lia
   ·have:=val i j H f q
    obtain⟨y,J,x,w,e⟩:=h.fu k (by lia) (by lia)
    have:=I y J x w
    rw[e]at this;exact this
end Mi
namespace G
open PySem L2 Mi
def yd {i j:Int}(H:-(2 ^ 64)<i:=by lia)(h:i<2 ^ 64:=by lia):qt (.int i) (.int j) A=.ok (.int (i * j)) A:=by unfold qt;dsimp only;rw[ai];unfold Kd;rw[a3,ak,aq,aq];exact .inl ⟨H,h⟩
def Qz {i j:Int}(h:0<j):Z6 (.int i) (.int j) A=.ok (.int (i%j)) A:=by unfold Z6 ZQ;dsimp only;rw[ai];unfold X7;exact ax h
def YO {i j:Int}(h:0<j)(H:j<1152921504606846976:=by lia):YZ (.int i) (.int j) A=.ok (.int (i/j)) A:=by unfold YZ ZQ;dsimp only;rw[ai];unfold XF;rw[ak,aq,aq];exact⟨h,H⟩
def iW {c m:Int}(h:0<m)(H:m<1000000000000000):QW [.ref 0,.int m] [.lst [.int c,.bl true]]=.ok (.int (c%m)) [.lst [.int (c/m),.bl true]]:=by
 refine qV ?_;dsimp only[Gj,mq];refine qk (A1:=[.lst [.int (c/m),.bl true]]) ?_;refine(yP (A1:=[.lst [.int c,.bl true]]) rfl).trans ?_;refine(zw (ρ1:=[rO 0,iV m,iV (c%m),none]) (A1:=[.lst [.int c,.bl true]]) ?_).trans ?_
 ·refine(qi (w:=.int (c%m)) (A1:=[.lst [.int c,.bl true]]) ?_).trans rfl
  exact(zB (x:=.int c) (y:=.int m) (A1:=[.lst [.int c,.bl true]]) (A2:=[.lst [.int c,.bl true]]) rfl rfl).trans (Qz h)
 ·refine(zw (ρ1:=[rO 0,iV m,iV (c%m),none]) (A1:=[.lst [.int (c/m),.bl true]]) ?_).trans rfl
  have e:zh YZ (zh zD zH qG) zG [rO 0,iV m,iV (c%m),none] [.lst [.int c,.bl true]]=.ok (.int (c/m)) [.lst [.int c,.bl true]]:=
   (zB (x:=.int c) (y:=.int m) (A1:=[.lst [.int c,.bl true]]) (A2:=[.lst [.int c,.bl true]]) rfl rfl).trans (YO h)
  unfold YS;rw[e,zK]
  rfl
def Jo (c:Int):Int:=(c * 48271+29)%2147483647
def Zk (d:Int):Int:=(d * d+39373 * d+7)%2147483629
def ZN (e:Int):Int:=(e * e+16807 * e)%2147483587
def Sg (c:Int):0<=Jo c/\Jo c<2147483647:=⟨emod_nonneg _ (by decide),bM _ (by decide)⟩
def iX (c:Int):0<=Zk c/\Zk c<2147483629:=⟨emod_nonneg _ (by decide),bM _ (by decide)⟩
def iY {c m:Int}(H:0<=c)(h:c<2147483647)(n:0<m)(o:m<1000000000000000):QW [.ref 0,.int m] [.lst [.int c,.bl false]]=.ok (.int (ZN (Zk (Jo c))/8%m)) [.lst [.int (Jo c),.bl false]]:=by
 have j:=Sg c;refine qV ?_;dsimp only[Gj,mq];refine(zw (ρ1:=[rO 0,iV m,none,none]) (A1:=[.lst [.int c,.bl false]]) ((jK (A1:=[.lst [.int c,.bl false]]) rfl).trans rfl)).trans ?_;have i:zh Z6 (zh ql (zh qt (zh zD zH qG) (zW (.int 48271))) (zW (.int 29))) (zW (.int 2147483647)) [rO 0,iV m,none,none] [.lst [.int c,.bl false]]=.ok (.int (Jo c)) [.lst [.int c,.bl false]]:=by
  have l:zh qt (zh zD zH qG) (zW (.int 48271)) [rO 0,iV m,none,none] [.lst [.int c,.bl false]]=.ok (.int (c * 48271)) [.lst [.int c,.bl false]]:=
   (zB (x:=.int c) (y:=.int 48271) (A1:=[.lst [.int c,.bl false]]) (A2:=[.lst [.int c,.bl false]]) rfl rfl).trans yd
  refine(zB (x:=.int (c * 48271+29)) (y:=.int 2147483647) (A1:=[.lst [.int c,.bl false]]) (A2:=[.lst [.int c,.bl false]]) ((zB l rfl).trans rfl) rfl).trans ?_;exact Qz (by decide)
 refine(zw (ρ1:=[rO 0,iV m,none,none]) (A1:=[.lst [.int (Jo c),.bl false]]) ?_).trans ?_
 ·unfold YS
  rw[i,zK]
  rfl
 generalize Jo c=d at*;have g:zh Z6 (zh ql (zh ql (zh qt (zh zD zH qG) (zh zD zH qG)) (zh qt (zW (.int 39373)) (zh zD zH qG))) QR) (zW (.int 2147483629)) [rO 0,iV m,none,none] [.lst [.int d,.bl false]]=
   .ok (.int (Zk d)) [.lst [.int d,.bl false]]:=by
  have l:zh qt (zh zD zH qG) (zh zD zH qG) [rO 0,iV m,none,none] [.lst [.int d,.bl false]]=.ok (.int (d * d)) [.lst [.int d,.bl false]]:=
   (zB (x:=.int d) (y:=.int d) (A1:=[.lst [.int d,.bl false]]) (A2:=[.lst [.int d,.bl false]]) rfl rfl).trans yd
  have E:zh qt (zW (.int 39373)) (zh zD zH qG) [rO 0,iV m,none,none] [.lst [.int d,.bl false]]=.ok (.int (39373 * d)) [.lst [.int d,.bl false]]:=
   (zB (x:=.int 39373) (y:=.int d) (A1:=[.lst [.int d,.bl false]]) (A2:=[.lst [.int d,.bl false]]) rfl rfl).trans (yd (by decide) (by decide))
  have a:zh ql (zh qt (zh zD zH qG) (zh zD zH qG)) (zh qt (zW (.int 39373)) (zh zD zH qG)) [rO 0,iV m,none,none] [.lst [.int d,.bl false]]=.ok (.int (d * d+39373 * d)) [.lst [.int d,.bl false]]:=
   (zB l E).trans rfl
  refine(zB (x:=.int (d * d+39373 * d+7)) (y:=.int 2147483629) (A1:=[.lst [.int d,.bl false]]) (A2:=[.lst [.int d,.bl false]]) ((zB a rfl).trans rfl) rfl).trans ?_;exact Qz (by decide)
 refine(zw (qi g)).trans ?_;have B:=iX d;generalize Zk d=e at*;have b:zh Z6 (zh ql (zh qt qv qv) (zh qt (zW (.int 16807)) qv)) (zW (.int 2147483587)) [rO 0,iV m,none,iV e] [.lst [.int d,.bl false]]=.ok (.int (ZN e)) [.lst [.int d,.bl false]]:=by
  have l:zh qt qv qv [rO 0,iV m,none,iV e] [.lst [.int d,.bl false]]=.ok (.int (e * e)) [.lst [.int d,.bl false]]:=
   (zB (x:=.int e) (y:=.int e) (A1:=[.lst [.int d,.bl false]]) (A2:=[.lst [.int d,.bl false]]) rfl rfl).trans yd
  have E:zh qt (zW (.int 16807)) qv [rO 0,iV m,none,iV e] [.lst [.int d,.bl false]]=.ok (.int (16807 * e)) [.lst [.int d,.bl false]]:=
   (zB (x:=.int 16807) (y:=.int e) (A1:=[.lst [.int d,.bl false]]) (A2:=[.lst [.int d,.bl false]]) rfl rfl).trans (yd (by decide) (by decide))
  refine(zB (x:=.int (e * e+16807 * e)) (y:=.int 2147483587) (A1:=[.lst [.int d,.bl false]]) (A2:=[.lst [.int d,.bl false]]) ((zB l E).trans rfl) rfl).trans ?_;exact Qz (by decide)
 refine(zw (qi b)).trans ?_;generalize ZN e=f at*;refine qk (qN ?_);refine(zB (x:=.int (f/8)) (y:=.int m) (A1:=[.lst [.int d,.bl false]]) (A2:=[.lst [.int d,.bl false]]) ?_ rfl).trans (Qz n);exact(zB (x:=.int f) (y:=.int 8) (A1:=[.lst [.int d,.bl false]]) (A2:=[.lst [.int d,.bl false]]) rfl rfl).trans (YO (by decide) (by decide))
def qS (n:Nat)(A:Hx):Prop:=∃c b,A[n]? =some (.lst [.int c,.bl b])/\0<=c/\(b=false->c<2147483647)
def YN (h:qS n A){m:Int}(i:0<m)(l:m<1000000000000000):∃r o,jq [.ref n,.int m] A=.ok (.int r) (A.set n o)/\0<=r/\r<m/\qS n (A.set n o):=by
 obtain⟨c,b,d,a,f⟩:=h;have j:n<A.length:=(cu.mp d).1;have g:∀(r C:Int),QW [.ref 0,.int m] [.lst [.int c,.bl b]]=.ok (.int r) [.lst [.int C,.bl b]]->jq [.ref n,.int m] A=.ok (.int r) (A.set n (.lst [.int C,.bl b])):=λr C e=>by
  unfold jq wj;dsimp only;rw[d];dsimp only;have H:(qQ [W.int c,W.bl b]&&qQ [W.int m])=true:=rfl;rw[ai H,e]
  rfl
 cases b with
 |true=>
  refine⟨c%m,_,g _ _ (iW i l),emod_nonneg _ (by lia),bM _ i,c/m,true,av j,Int.ediv_nonneg a (by lia),λz=>nomatch z⟩
 |false=>
  exact⟨_,_,g _ _ (iY a (f rfl) i l),emod_nonneg _ (by lia),bM _ i,Jo c,false,av j,(Sg c).1,λ_=>(Sg c).2⟩
end G
namespace Mi
open PySem L2
def JC {k:Nat}{x y:List W}(h:A[n]? =some (.lst x))(a:A[k]? =some (.lst y))(H:x.length+y.length<=zX):ql (.ref n) (.ref k) A=.ok (.ref A.length) (A++[.lst (x++y)]):=by unfold ql;dsimp only;rw[h,a];dsimp only;rw[ai H]
def Ext (A A':Hx):Prop:=∃l,A'=A++l
def Ext.refl:Ext A A:=⟨[],by simp⟩
def Ext.trans {C:Hx}(a:Ext A B)(b:Ext B C):Ext A C:=let ⟨l,e⟩:=a;let ⟨k,f⟩:=b;⟨l++k,by rw[f,e,aP]⟩
def Ext.one {o:O}:Ext A (A++[o]):=⟨[o],rfl⟩
def Ext.at {A':Hx}{o:O}(x:Ext A A')(h:A[n]? =some o):A'[n]? =some o:=by
 obtain⟨l,rfl⟩:=x
 have:=(cu.mp h).1
 rw[ah this];exact h
def Ov {ifs:Ev}{N:Nat}{I:Nat->En->List W->Hx->Prop}
  (H:∀i r q A,i<N->I i r q A->∃w ρ1,j.at_ A i=some (some w)/\tw w r=some ρ1/\((∃A1 c a A2,ifs ρ1 A=.ok (.bl true) A1/\em ρ1 q A1=.ok (c,a) A2/\I (i+1) c a A2)∨(∃A1,ifs ρ1 A=.ok (.bl false) A1/\I (i+1) ρ1 q A1)))
  (e:∀r q A,I N r q A->j.at_ A N=some none):
  ∀(f i:Nat)(r:En)(q:List W)(A:Hx),i+f=N->I i r q A->∃d b A',jc j tw ifs em f i r q A=.ok (d,b) A'/\I N d b A':=by
 intro f
 induction f with
 |zero=>
  intro i r q A h g
  have:i=N:=by lia
  subst this;refine⟨r,q,A,?_,g⟩;unfold jc;rw[e _ _ _ g]
 |succ f n=>
  intro i r q A h g;obtain⟨w,ρ1,u,t,o⟩:=H i r q A (by lia) g
  rw[jc,u];dsimp only;rw[t];dsimp only;rcases o with ⟨A1,c,a,A2,l,p,E⟩|⟨A1,l,E⟩
  ·rw[l,zK]
   dsimp only;rw[p,zK];exact n (i+1) _ _ _ (by lia) E
  ·rw[l,zK]
   dsimp only;exact n (i+1) _ _ _ (by lia) E
def Ys {nl:Nat}{ifs:Ev}{N:Nat}{I:Nat->En->List W->Hx->Prop}(l:mi ρ A=.ok j A1)(f:j.len=N)
  (h:∀i ρ acc A,i<N->I i ρ acc A->∃w ρ1,j.at_ A i=some (some w)/\tw w ρ=some ρ1/\((∃A1 d b A2,ifs ρ1 A=.ok (.bl true) A1/\em ρ1 acc A1=.ok (d,b) A2/\I (i+1) d b A2)∨(∃A1,ifs ρ1 A=.ok (.bl false) A1/\I (i+1) ρ1 acc A1)))
  (H:∀ρ acc A,I N ρ acc A->j.at_ A N=some none)(n:I 0 (QE nl cap ρ) [] A1):∃c a A',qy nl cap mi tw ifs em ρ A=.ok a A'/\I N c a A':=by
 obtain⟨c,a,A',e,g⟩:=Ov h H N 0 _ _ _ (by lia) n
 refine⟨c,a,A',?_,g⟩;unfold qy;rw[l,zK,f,e]
 rfl
def yH {st:W->Ex}{N:Nat}{I:Nat->En->Hx->Prop}
  (H:∀i g A,i<N->I i g A->∃w ρ1 A1,j.at_ A i=some (some w)/\st w g A=.ok (.nx ρ1) A1/\I (i+1) ρ1 A1)(d:∀g A,I N g A->j.at_ A N=some none):
  ∀(f i:Nat)(g:En)(A:Hx),i+f=N->I i g A->∃a A',j3 j st f i g A=.ok (.nx a) A'/\I N a A':=by
 intro f
 induction f with
 |zero=>
  intro i g A h b
  have:i=N:=by lia
  subst this;exact⟨g,A,Uj (d _ _ b),b⟩
 |succ f c=>
  intro i g A h b;obtain⟨w,ρ1,A1,n,l,e⟩:=H i g A (by lia) b
  rw[GJ n l];exact c (i+1) _ _ (by lia) e
def YB {a:List W}{y:W}(h:me ρ A=.ok y A1)(H:a.length<zX):qe me ρ a A=.ok (ρ,a++[y]) A1:=by unfold qe;rw[h,zK,ai H]
theorem take_succ {l:List α}(h:i<l.length):l.take (i+1)=l.take i++[l[i]]:=by rw[List.take_succ,ae h];rfl
def Ext.app {l:Hx}(x:Ext A B):Ext A (B++l):=x.trans ⟨l,rfl⟩
def Ext.len (x:Ext A B):A.length<=B.length:=by obtain⟨l,rfl⟩:=x;simp
def j0 {o:O}(h:A[n]? =some o):n<A.length:=(cu.mp h).1
end Mi
namespace G
open PySem L2 Mi
def iZ {w:W}(H:A[n]? =some (.lst ws))(h:ws[i]? =some w):((zI (.ref n) A).map λws=>ws[i]?)=some (some w):=by rw[kZ H,h]
def i0 (H:A[n]? =some (.lst ws))(h:ws.length<=i):((zI (.ref n) A).map λws=>ws[i]?)=some none:=by rw[kZ H,az h]
theorem GY:∀(l:bR)(m:Int),m<=yu l m/\∀x∈l,x<=yu l m
 |[],m=>⟨Int.le_refl _,λx h=>by cases h⟩|y::l,m=>by
  unfold yu
  split
  ·rename_i a
   obtain⟨c,b⟩:=GY l y;refine⟨by lia,λx H=>?_⟩
   rcases cw.mp H with rfl|H
   ·exact c
   ·exact b x H
  ·rename_i a
   obtain⟨c,b⟩:=GY l m;refine⟨c,λx H=>?_⟩;rcases cw.mp H with rfl|H
   ·lia
   ·exact b x H
theorem Px:∀{l:List α}{k:Nat}{w:α},l[k]? =some w->l.Perm (w::l.eraseIdx k)
 |[],_,_,h=>by simp at h|x::l,0,w,h=>by simp at h;subst h;simp
 |x::l,k+1,w,h=>by rw[List.getElem?_cons_succ]at h;rw[List.eraseIdx_cons_succ];exact((Px h).cons x).trans (List.Perm.swap w x _)
def El {k:Nat}{i:Int}{w:W}(h:A[n]? =some (.lst ws))(a:ws[k]? =some w)(H:jv i=true)(e:seqIndex? i ws.length=some k):Z1 (.ref n) (.int i) A=.ok w (A.set n (.lst (ws.eraseIdx k))):=by unfold Z1;dsimp only;rw[h];dsimp only;rw[ai H,e];dsimp only;rw[a]
def i3 {k:Nat}(h:k<n):seqIndex? (k:Int) n=some k:=by
 have:=PySem.StrLaws.seqIndex_nonneg (i:=(k:Int)) (n:=n) (by lia) (by lia)
 rw[aB]at this;exact this
def ER {k:Nat}{w:W}(h:A[n]? =some (.lst ws))(a:ws[k]? =some w)(H:k<1000000):Z1 (.ref n) (.int k) A=.ok w (A.set n (.lst (ws.eraseIdx k))):=
 El h a (G.ZW H) (i3 (cu.mp a).1)
theorem Oe {b:Type}(f:α->b):∀(l:List α)(k:Nat),(l.map f).eraseIdx k=(l.eraseIdx k).map f
 |[],_=>rfl|_::_,0=>rfl|a::l,k+1=>by rw[aS,List.eraseIdx_cons_succ,List.eraseIdx_cons_succ,aS,Oe f l k]
def ZC {a b:Ev}{y:W}(c:a ρ A=.ok (.ref n) A)(d:A[n]? =some (.lst ws))(H:b ρ A=.ok y A1):j4 g a b ρ A=g (.ref n) y A1:=by
 unfold j4;have h:Jm (.ref n) A=true:=by unfold Jm;dsimp only;rw[d]
 rw[c,zK,ai h,H,zK]
def QX {y:W}(h:A[n]? =some (.lst ws))(H:ws.length<1000):yk (.ref n) y A=.ok .non (A.set n (.lst (ws++[y]))):=by unfold yk;dsimp only;rw[h];dsimp only;rw[ai (by unfold zX;lia)]
def G6 {f:Fn}{us:List W}{c C:Int}{b B:Bool}{w:W}(a:A[n]? =some (.lst [.int c,.bl b]))(H:qQ us=true)(h:f (.ref 0::us) [.lst [.int c,.bl b]]=.ok w A1)(i:A1[0]? =some (.lst [.int C,.bl B]))(e:w.nr=true):wj f (.ref n::us) A=.ok w (A.set n (.lst [.int C,.bl B])):=by
 unfold wj;dsimp only;rw[a];dsimp only;have g:(qQ [W.int c,W.bl b]&&qQ us)=true:=by rw[H];rfl
 rw[ai g,h];dsimp only;rw[List.head?_eq_getElem?,i];dsimp only;have d:(qQ [W.int C,W.bl B]&&w.nr)=true:=by rw[e];rfl
 rw[ai d]
abbrev iL (l:bW):List W:=l.map λ(a:Nat)=>W.int a
def E6 {m:Ev}(h:m ρ A=.ok (.int n) A1)(H:n<=100):U3 m ρ A=.ok (.ref A1.length) (A1++[.lst (iL (List.range n))]):=by
 unfold U3;rw[h,zK];dsimp only;rw[ZW,aB,ax (by unfold zX;lia)]
 rfl
def GK {m:Ev}{o:List α}{f:α->W}{G:α->W}(h:m ρ A=.ok (.tup (o.map f)) A)(l:o.length<=zX)(d:∀a∈o,me (some (f a)::cap.map λi=>(ρ[i]?).join) A=.ok (G a) A):
  qy 1 cap (qI m) (zM 0) qH (qe me) ρ A=.ok (o.map G) A:=by
 by_cases c:o=[]
 ·subst c
  have e:=w9 (cap:=cap) (me:=me) (ρ:=ρ) (A:=A) (N:=0) (item:=λ_=>.non) (g:=λ_=>.non) (Q4 h) rfl (by unfold zX;lia) (λi H=>by lia) rfl (λi H=>by lia)
  exact e
 ·obtain⟨x,b⟩:∃x,x∈o:=List.exists_mem_of_ne_nil o c
  have e:=w9 (cap:=cap) (me:=me) (ρ:=ρ) (A:=A) (N:=o.length) (item:=λi=>f (o.getD i x)) (g:=λi=>G (o.getD i x)) (Q4 h) (af ..) l
   (λi H=>by show some (o.map f)[i]? =_;rw[ay,ae H,aa,ae H];rfl)
   (by show some (o.map f)[o.length]? =_;rw[az (by rw[af];exact ao _)])
   (λi H=>by
    have:o.getD i x=o[i]:=by rw[aa,ae H];rfl
    rw[this];exact d _ (aK H))
  rw[e]
  congr 1
  apply a9
  ·simp
  ·intro i n j
   have H:i<o.length:=by simpa using j
   simp[aa,ae H]
def Ym {a:Type}(o:List α)(x:α)(f:α->a):o.map f=(List.range o.length).map λi=>f (o.getD i x):=by
 apply a9
 ·simp
 ·intro i H b
  have h:i<o.length:=by simpa using H
  simp[aa,ae h]
def U7 (q:∀r∈t,r.length=t.length){v:Int}(h:v∈t.flatten):∃a b,a<t.length/\b<t.length/\at2 t a b=v:=by
 obtain⟨r,H,e⟩:=List.mem_flatten.mp h;obtain⟨a,d,g⟩:=a7 H;obtain⟨b,c,f⟩:=a7 e;refine⟨a,b,d,by rw[<- q r H];exact c,?_⟩
 unfold at2;have E:t.getD a []=r:=by rw[aa,ae d];exact g
 rw[E,aa,ae c];exact f
def i4 (H:∀r∈t,r.length=t.length){a b:Nat}(d:a<t.length)(c:b<t.length):∃r∈t,at2 t a b∈r/\at2 t a b∈t.flatten:=by
 have e:t.getD a []∈t:=kz d;have f:at2 t a b∈t.getD a []:=by
  unfold at2;have h:b<(t.getD a []).length:=by rw[H _ e];exact c
  rw[aa (l:=t.getD a []),ae h];exact aK _
 exact⟨_,e,f,List.mem_flatten.mpr ⟨_,e,f⟩⟩
def UY {r:bR}{x:Int}(h:x∈r):x<=kJ r:=by
 cases r with
 |nil=>cases h|cons i I=>
  show x<=yu I i;rcases cw.mp h with rfl|h
  ·exact(GY I x).1
  ·exact(GY I i).2 x h
section
def K6 (h:qm t){a b:Nat}(d:a<t.length)(c:b<t.length):at2 t a b<qb t:=by obtain⟨r,H,f,_⟩:=i4 h.sq d c;have E:=UY f;have e:=UY (cx.mpr ⟨r,H,rfl⟩:kJ r∈t.map kJ);unfold qb;lia
def GR (h:qm t):qb t-1∈t.flatten:=by
 obtain⟨r,H,e⟩:=cx.mp (GI h.map_ne)
 have:qb t-1=kJ r:=by unfold qb;lia
 rw[this];exact List.mem_flatten.mpr ⟨r,H,GI (h.row_ne H)⟩
def Xf (h:qm t):qb t<=(t.length:Int):=by
 obtain⟨r,a,H⟩:=List.mem_flatten.mp (GR h)
 have:=h.lo r a _ H
 lia
def QB (h:qm t){v:Nat}(H:(v:Int)<qb t):∃a b,a<t.length/\b<t.length/\at2 t a b=(v:Int):=by
 by_cases e:(v:Int)=qb t-1
 ·rw[e];exact U7 h.sq (GR h)
 ·exact U7 h.sq (h.fu v ⟨_,GR h,by lia⟩)
noncomputable def jn (p:bW):bR:=0::p.map λ(k:Nat)=>1+(k:Int)
def wD (t:bQ)(p o:bW):bQ:=o.map λa=>o.map λb=>(jn p).getD (at2 t a b).toNat 0
def Q2 {p:bW}{v:Nat}(H:1<=v)(h:v<=p.length:=by lia):(jn p).getD v 0=1+((p[v-1]'(by lia):Nat):Int):=by
 obtain⟨v,rfl⟩:∃u,v=u+1:=⟨v-1,by lia⟩
 unfold jn;rw[aa,List.getElem?_cons_succ,ay,ae (by lia)]
 rfl
def P2 (h:qm t){p o:bW}(n:p.Perm (List.range (qb t-1).toNat))(f:o.Perm (List.range t.length)):qm (wD t p o)/\(wD t p o).length=t.length:=by
 have l:o.length=t.length:=by rw[f.length_eq,aF]
 have kb:=kH h;have L:=Xf h;have B:p.length=(qb t-1).toNat:=by rw[n.length_eq,aF]
 have U:=h.n1;have H:∀i,o.getD i 0<t.length:=λi=>by
  by_cases T:i<o.length
  ·rw[aa,ae T]
   exact cm.mp (f.mem_iff.mp (aK T))
  ·rw[aa,az (by lia)]
   exact U
 have w:o.Nodup:=(f.nodup_iff).mpr nodup_range;have r:∀a,a<t.length->∃i,i<t.length/\o.getD i 0=a:=λa z=>by obtain⟨i,T,e⟩:=a7 (f.mem_iff.mpr (cm.mpr z));exact⟨i,by lia,by rw[aa,ae T];exact e⟩
 have c:∀q (g:q<p.length),p[q]<p.length:=λq g=>by
  have:=cm.mp (n.mem_iff.mp (aK g))
  lia
 have M:Mu t.length (λi j=>(jn p).getD (at2 t (o.getD i 0) (o.getD j 0)).toNat 0) p.length (λ_ _=>True):=by
  refine⟨λi=>?_,λi j=>?_,λi j C A _=>?_,λi j _ _ X=>absurd trivial X,λk Y N=>?_⟩
  ·show(jn p).getD (at2 t (o.getD i 0) (o.getD i 0)).toNat 0=0
   rw[(h.dg _ _ (H i) (H i)).mpr rfl]
   rfl
  ·show(jn p).getD (at2 t (o.getD i 0) (o.getD j 0)).toNat 0=(jn p).getD (at2 t (o.getD j 0) (o.getD i 0)).toNat 0
   rw[h.sy _ _ (H i) (H j)]
  ·show 1<=(jn p).getD (at2 t (o.getD i 0) (o.getD j 0)).toNat 0/\(jn p).getD (at2 t (o.getD i 0) (o.getD j 0)).toNat 0<=(p.length:Int)
   have u:o.getD i 0≠o.getD j 0:=by
    have y:i<o.length:=by lia
    have x:j<o.length:=by lia
    rw[aa,ae y,aa,ae x];intro e;have K:o[i]=o[j]:=e
    have:=(getElem_inj w).mp K
    lia
   have d:=h.dg _ _ (H i) (H j);have S:=YX h (H i) (H j);have Q:=K6 h (H i) (H j);have P:at2 t (o.getD i 0) (o.getD j 0)≠0:=λe=>u (d.mp e);rw[Q2 (by lia)]
   have:=c ((at2 t (o.getD i 0) (o.getD j 0)).toNat-1) (by lia)
   lia
  ·obtain⟨q,g,e⟩:=a7 (n.mem_iff.mpr (cm.mpr (by lia:k-1<(qb t-1).toNat)))
   obtain⟨a,b,z,D,J⟩:=QB h (v:=q+1) (by lia)
   obtain⟨i,T,I⟩:=r a z;obtain⟨j,A,E⟩:=r b D;refine⟨i,j,T,A,?_⟩;show(jn p).getD (at2 t (o.getD i 0) (o.getD j 0)).toNat 0=(k:Int);rw[I,E,J,aB,Q2 (by lia)]
   have:p[q+1-1]'(by lia)=k-1:=e
   rw[this];lia
 have hT:wD t p o=j5 t.length (λi j=>(jn p).getD (at2 t (o.getD i 0) (o.getD j 0)).toNat 0):=by
  unfold wD j5;rw[Ym o 0,l]
  congr 1
  funext i
  rw[Ym o 0 (λb=>(jn p).getD (at2 t (o.getD i 0) b).toNat 0),l]
 refine⟨?_,by unfold wD;rw[af,l]⟩
 rw[hT];exact M.tab (λ_ _ _ _=>trivial) U h.n8 (.inr (by lia))
end
end G
namespace Mi
open PySem L2
def Aw {r b:Nat}{v:W}(h:A[r]? =some (.lst ws))(H:b<ws.length):gQ (.ref r) (.int b) v A=.ok () (A.set r (.lst (ws.set b v))):=by
 have e:Zo ws.length (b:Int)=some b:=by unfold Zo;rw[ai (by lia),ai (by lia),aB]
 unfold gQ;dsimp only;rw[h];dsimp only;rw[e]
structure Kp (n:Nat)(A B:Hx):Prop where
 len:A.length<=B.length
 at_:∀i,i<A.length->i≠n->B[i]? =A[i]?
section
variable {C:Hx}
def Kp.refl:Kp n A A:=⟨ao _,λ_ _ _=>rfl⟩
theorem Kp.trans (a:Kp n A B)(b:Kp n B C):Kp n A C:=⟨a4 a.len b.len,λi H h=>(b.at_ i (aJ H a.len) h).trans (a.at_ i H h)⟩
theorem Kp.set {o:O}:Kp n A (A.set n o):=⟨by rw[bF];exact ao _,λi _ h=>aw (Ne.symm h)⟩
def Kp.ext (x:Ext A B):Kp n A B:=by obtain⟨l,rfl⟩:=x;exact⟨by simp,λi h _=>ah h⟩
def Kp.get (a:Kp n A B){o:O}(h:A[i]? =some o)(H:i≠n):B[i]? =some o:=by rw[a.at_ i (j0 h) H];exact h
end
def GC {a:Nat->Nat->Int}:(j5 n a).length=n:=by unfold j5;simp
end Mi
namespace G
open PySem L2 Mi
section
abbrev Sq (t:bQ):Prop:=∀r∈t,r.length=t.length
end
def Vb (t:bQ):Bool:=decide (1<=t.length)&&(decide (t.length<=8)&&((t.all λr=>r.length==t.length&&r.all λv=>decide (0<=v)&&decide (v<(t.length:Int)))&&
 (((List.range t.length).all λa=>(List.range t.length).all λb=>(decide (at2 t a b=0)==decide (a=b))&&decide (at2 t a b=at2 t b a))&&(List.range 8).all λk=>!(t.flatten.any λv=>decide ((k:Int)<v)) || t.flatten.contains (k:Int))))
def Nh (h:Vb t=true):qm t:=by
 unfold Vb at h;rw[ak,ak,ak,ak,aq,aq]at h;obtain⟨o,N,j,i,p⟩:=h;have rw_:∀r∈t,r.length=t.length/\∀v∈r,0<=v/\v<(t.length:Int):=λr n=>by
  have:=cy.mp j r n
  rw[ak,aL]at this;refine⟨this.1,λv d=>?_⟩
  have:=cy.mp this.2 v d
  rw[ak,aq,aq]at this;exact this
 have at_:∀a b,a<t.length->b<t.length->(decide (at2 t a b=0)==decide (a=b))=true/\at2 t a b=at2 t b a:=λa b c H=>by
  have:=cy.mp (cy.mp i a (cm.mpr c)) b (cm.mpr H)
  rw[ak,aq]at this;exact this
 refine⟨o,N,λr n=>(rw_ r n).1,λr n=>(rw_ r n).2,λa b c H=>?_,λa b c H=>(at_ a b c H).2,λk l=>?_⟩
 ·have:=aL.mp (at_ a b c H).1
  by_cases q:a=b
  ·rw[ax q]at this;exact⟨λ_=>q,λ_=>of_decide_eq_true this⟩
  ·rw[aE q]at this;exact⟨λz=>absurd z (of_decide_eq_false this),λz=>absurd z q⟩
 ·obtain⟨v,d,f⟩:=l
  obtain⟨r,n,e⟩:=List.mem_flatten.mp d
  have:=(rw_ r n).2 v e
  have g:=cy.mp p k (cm.mpr (by lia))
  rw[a3]at g;rcases g with z|z
  ·exfalso
   have:(t.flatten.any λv=>decide ((k:Int)<v))=true:=List.any_eq_true.mpr ⟨v,d,ax f⟩
   rw[this]at z;cases z
  ·exact List.contains_iff_mem.mp z
def Zr (t:bQ):((zm t).nr&&true)=true:=by rw[ZZ];rfl
def km:W->Bool
 |.int _=>true|_=>false
def QD {m:Ev}{w:W}{ty c:Ty}(h:m ρ A=.ok w A1)(H:jM w A1=some ty):gC c m ρ A=.ok (.bl (kK ty c)) A1:=by unfold gC;rw[h,zK,H]
def Wi (h:ρ[i]? =some (some (.tup ws))):mQ qf (zN (zS i)) ρ A=.ok (.int ws.length) A:=by
 rw[jP (yc (w:=.tup ws) (A1:=A) (zj h) rfl)]
 rfl
def EL (i:Int)(A:Hx):Jw [.int i] A=.ok (.bl true) A:=by unfold Jw Uo;exact qV (w:=.bl true) (A1:=A) rfl
def OA {r:bR}(h:r.length<=8)(A:Hx):ZA [zo r,.int r.length] A=.ok (.bl true) A:=by
 unfold ZA KC;refine qV ?_;dsimp only[Yr,mq];refine qk (qN ?_);refine(Z2 (A1:=A) rfl).trans ?_;have e:mQ qf (zN zH) [some (zo r),iV r.length] A=.ok (.int r.length) A:=by rw[jP (yc (w:=zo r) (A1:=A) (zj rfl) rfl)];unfold qf;rw[af]
 refine(Z2 (A1:=A) ((zB e (zj (i:=1) rfl)).trans ((gz _ _ _).trans (by rw[ax rfl])))).trans ?_
 have E:=Yy (cap:=[]) (A:=A) (ρ:=[some (zo r),iV r.length]) (ws:=r.map W.int) (me:=zP Jw (zi zH zr)) (g:=λ_=>.bl true) (zj (i:=0) rfl) (by rw[af];unfold zX;lia) (λw H=>by obtain⟨i,_,rfl⟩:=cx.mp H;exact(zT (ws:=[.int i]) (A1:=A) rfl).trans (EL i A))
 exact(jP E).trans (K4 (p:=λ_=>true) λ_ _=>rfl)
def AH {r:bR}(l:r.length<=8)(H:∀v∈r,0<=v/\v<r.length)(A:Hx):QU [zo r,.int r.length,.int r.length] A=.ok (.bl true) A:=by
 unfold QU VE;refine qV ?_;dsimp only[WX,mq];refine qk (qN ?_);refine(Z2 (A1:=A) ((zT (ws:=[zo r,.int r.length]) (A1:=A) rfl).trans (OA l A))).trans ?_;have e:=Yy (cap:=[2]) (A:=A) (ρ:=[some (zo r),iV r.length,iV r.length]) (ws:=r.map W.int) (me:=gI Kf Rc (zW (.int 0)) (zS 0) (zS 1)) (g:=λ_=>.bl true) (zj (i:=0) rfl) (by rw[af];unfold zX;lia) (λw a=>by obtain⟨v,h,rfl⟩:=cx.mp a;obtain⟨c,b⟩:=H v h;unfold gI;rw[zR,zK,zj (i:=0) (w:=.int v) rfl,zK];show R.bind (R.ok (W.bl (decide ((0:Int)<=v))) A) _=_;rw[ax c,zK];dsimp only;rw[zj (i:=1) (w:=.int r.length) rfl,zK];show R.ok (W.bl (decide (v<(r.length:Int)))) A=_;rw[ax b])
 exact(jP e).trans (K4 (p:=λ_=>true) λ_ _=>rfl)
def i5 (h:qm t)(A:Hx):PL [zm t] A=.ok (.bl true) A:=by
 refine ZF (A1:=[]) (Zr t) rfl (qV ?_);dsimp only[Uw,mq];obtain⟨d,e,_⟩:=Ob (A:=[]) (N:=t.length) (item:=λi=>.tup [.int i,zo (t.getD i [])]) (I:=λD=>∃g Y y C,D=[some (zm t),g,Y,y,C])
  (j:=yC (zm t) (t.map zo).length) (st:=turn (jH 1 2) (zy (jD (Zf zQ) (jH 3 4) (zy (jB (ZR (zh je (zh yi qw qG) (zh yi zG qv)) (zh je (zh zD (zh zD zH qv) zG) qw)) yT zV) zV)) zV))
  (λi n=>YW (Qy n)) (by have:=YT (A:=[]) (ws:=t.map zo);rw[af]at this;rw[af];exact this) (λa f D H=>by
   obtain⟨g,Y,y,C,rfl⟩:=H;have l:=h.sq _ (kz f);obtain⟨o,E,p,Z,r⟩:=Ob (A:=[]) (N:=t.length) (item:=λi=>.tup [.int i,.int ((t.getD a []).getD i 0)]) (I:=λD=>∃y C,D=[some (zm t),iV a,some (zo (t.getD a [])),y,C])
    (j:=yC (zo (t.getD a [])) ((t.getD a []).map W.int).length) (st:=turn (jH 3 4) (zy (jB (ZR (zh je (zh yi qw qG) (zh yi zG qv)) (zh je (zh zD (zh zD zH qv) zG) qw)) yT zV) zV))
    (λi n=>YW (int_at))
    (by have:=YT (A:=[]) (ws:=(t.getD a []).map W.int);rw[af,l]at this;rw[af,l];exact this)
    (λb c D H=>by
     obtain⟨y,C,rfl⟩:=H;refine⟨[some (zm t),iV a,some (zo (t.getD a [])),iV b,iV ((t.getD a []).getD b 0)],?_,_,_,rfl⟩;refine(jO rfl).trans ?_;refine(zw ((jK (A1:=[]) ?_).trans rfl)).trans rfl;have x:zh je (zh yi qw qG) (zh yi zG qv) [some (zm t),iV a,some (zo (t.getD a [])),iV b,iV ((t.getD a []).getD b 0)] []=.ok (.bl false) []:=by
      refine(zB ((zB (zj (i:=4) rfl) (zR (w:=.int 0))).trans (gz _ _ _)) ((zB (zj (i:=1) rfl) (zj (i:=3) rfl)).trans (gz _ _ _))).trans ((LX _ _ _).trans ?_);have J:(t.getD a []).getD b 0=0↔a=b:=h.dg a b f c
      have:decide ((t.getD a []).getD b 0=0)=decide ((a:Int)=(b:Int)):=by
       by_cases q:a=b
       ·rw[ax (J.mpr q),ax (by lia)]
       ·rw[aE (λz=>q (J.mp z)),aE (by lia)]
      rw[this];simp
     have E:zh je (zh zD (zh zD zH qv) zG) qw [some (zm t),iV a,some (zo (t.getD a [])),iV b,iV ((t.getD a []).getD b 0)] []=.ok (.bl false) []:=by
      have v:=h.sq _ (kz c);refine(zB ((zB ((zB (zj (i:=0) rfl) (zj (i:=3) rfl)).trans (JO c)) (zj (i:=1) rfl)).trans wC) (zj (i:=4) rfl)).trans ((Jl _ _ _).trans ?_);have u:(t.getD b []).getD a 0=(t.getD a []).getD b 0:=(h.sy a b f c).symm;rw[u,ax rfl]
      rfl
     exact(Wn x).trans E) t.length 0 [some (zm t),iV a,some (zo (t.getD a [])),y,C] (by lia) ⟨_,_,rfl⟩
   refine⟨[some (zm t),iV a,some (zo (t.getD a [])),p,Z],?_,_,_,_,_,rfl⟩;refine(jO rfl).trans ?_;rw[r]at E;have B:((t.getD a []).map W.int).length=t.length:=by rw[af,l]
   refine(zw ((jy (Yv (zj (i:=2) rfl))).trans ?_)).trans rfl;show j3 (yC (zo (t.getD a [])) ((t.getD a []).map W.int).length) _ ((t.getD a []).map W.int).length 0 _ _=_;rw[B]at E ⊢;exact E) t.length 0 [some (zm t),none,none,none,none] (by lia) ⟨_,_,_,_,rfl⟩
 refine(zw (ρ1:=d) (A1:=[]) ((jy (Yv (zj (i:=0) rfl))).trans ?_)).trans (qk rfl);show j3 (yC (zm t) (t.map zo).length) _ (t.map zo).length 0 _ _=_;have B:(t.map zo).length=t.length:=af ..;rw[B]at e ⊢;exact e
def i6 (h:qm t)(A:Hx):RC [zm t] A=.ok (.bl true) A:=by
 have q:=Bk h;have c:t.flatten≠[]:=by
  intro e;have J:=h.n1;have b:=h.sq _ (kz (t:=t) (a:=0))
  have:t.getD 0 []=[]:=by
   have:=List.flatten_eq_nil_iff.mp e _ (kz (t:=t) (a:=0))
   exact this
  rw[this]at b;simp at b;lia
 obtain⟨z,l,E⟩:=List.exists_cons_of_ne_nil c;refine ZF (A1:=[.lst (t.flatten.map W.int)]) (Zr t) rfl (qV ?_);dsimp only[VA,mq];refine(zw (qi (yZ (iT (zj rfl) (by unfold zX;lia))))).trans (qk (qN ?_))
 generalize u:[O.lst (t.flatten.map W.int)]=B;have d:zI (.ref 0) B=some (t.flatten.map W.int):=by rw[<- u];rfl
 have C:mQ gq (zN zG) [some (zm t),rO 0] B=.ok (.int (yu l z)) B:=by rw[jP (yc (w:=.ref 0) (A1:=B) (zj rfl) d)];unfold gq;rw[KA,E]
 have H:yu l z∈t.flatten:=by
  rw[E];rcases UG l z with e|e
  ·rw[e];exact aG ..
  ·exact aA _ e
 have o:0<=yu l z/\yu l z<8:=by
  obtain⟨r,b,v⟩:=List.mem_flatten.mp H
  have:=h.lo r b _ v
  have:=h.n8
  lia
 generalize yu l z=M at C H o;obtain⟨K,rfl⟩:=a5 o.1;have y:=w9 (cap:=[1]) (me:=zh L9 zH zG) (ρ:=[some (zm t),rO 0]) (A:=B) (N:=K) (j:=jQ 0 K) (item:=λi=>.int (0+i)) (g:=λ_=>.bl true)
  ((yI C (by unfold jv;simp;lia)).trans (by rw[aB])) rfl (by unfold zX;lia) (λi f=>ym f) (yj)
  (λi f=>by
   refine(zB (zj (i:=0) (w:=.int (0+i)) rfl) (zj (i:=1) (w:=.ref 0) rfl)).trans ?_;show J3 false _ _ _=_;unfold J3;rw[d];dsimp only;have I:(yA (.int (0+(i:Int)))&&(t.flatten.map W.int).all yA)=true:=by
    have:(t.flatten.map W.int).all yA=true:=cy.mpr λw D=>by obtain⟨x,_,rfl⟩:=cx.mp D;rfl
    rw[this];rfl
   rw[ai I];have n:Ko (.int (0+(i:Int))) (t.flatten.map W.int)=true:=by
    unfold Ko;refine List.any_eq_true.mpr ⟨.int i,cx.mpr ⟨(i:Int),h.fu i ⟨_,H,by lia⟩,rfl⟩,?_⟩
    show((i:Int)==0+(i:Int))=true;rw[Int.zero_add];exact bB _
   rw[n]
   rfl)
 refine(jP y).trans ?_;exact K4 (p:=λ_=>true) λ_ _=>rfl
def Af (h:qm t)(A:Hx):gF [zm t] A=.ok (.bl true) A:=by
 have N:=h.n1;have n:=h.n8;unfold gF Gu;refine qV ?_;dsimp only[KD,mq];have e:∀b:En,mQ qf (zN (zS 0)) (some (zm t)::b) A=.ok (.int t.length) A:=λb=>by rw[jP (yc (w:=zm t) (A1:=A) (zj rfl) rfl)];unfold qf;rw[af]
 refine(zw (ρ1:=[some (zm t),none]) (A1:=A) ((jK (A1:=A) ?_).trans rfl)).trans ?_
 ·refine(Wn (A1:=A) rfl).trans ?_
  refine kR (k:=true) ?_;show gI Kf Kf (zW (.int 1)) (mQ qf (zN (zS 0))) (zW (.int 8)) [some (zm t),none] A=_;unfold gI;rw[zR,zK,e,zK];show R.bind (R.ok (W.bl (decide ((1:Int)<=t.length))) A) _=_;rw[ax (by lia),zK]
  dsimp only;rw[zR,zK];show R.ok (W.bl (decide ((t.length:Int)<=8))) A=_;rw[ax (by lia)]
 refine(zw (qi (e _))).trans ?_;have E:=Yy (cap:=[1]) (A:=A) (ρ:=[some (zm t),iV t.length]) (ws:=t.map zo) (me:=zP QU (zi (zS 0) (zi (zS 1) (zi (zS 1) zr)))) (g:=λ_=>.bl true) (zj (i:=0) rfl) (by rw[af];unfold zX;lia) (λw c=>by obtain⟨r,H,rfl⟩:=cx.mp c;have l:=h.sq r H;refine(zT (ws:=[zo r,.int t.length,.int t.length]) (A1:=A) rfl).trans ?_;rw[<- l];exact AH (by lia) (λv a=>by have:=h.lo r H v a;lia) A)
 refine(zw (ρ1:=[some (zm t),iV t.length]) (A1:=A) ((jK (A1:=A) (kR (k:=true) ((jP E).trans (K4 (p:=λ_=>true) λ_ _=>rfl)))).trans rfl)).trans (qk (qN ?_));refine(Z2 (A1:=A) ((zT (ws:=[zm t]) (A1:=A) rfl).trans (i5 h A))).trans ?_;exact(zT (ws:=[zm t]) (A1:=A) rfl).trans (i6 h A)
end G
namespace Mi
open PySem L2
theorem Ug:∀(l m:bR),PyData.eqvAll (l.map PyData.int) (m.map PyData.int)=decide (l=m)
 |[],[]=>by simp[PyData.eqvAll]|[],_::_=>by simp[PyData.eqvAll]|_::_,[]=>by simp[PyData.eqvAll]|a::l,b::m=>by simp only[aS,PyData.eqvAll,Ug l m,PyData.eqv];rw[Bool.eq_iff_iff];simp
def Ky (A B:Hx):Prop:=∀w ty,jM w A=some ty->jM w B=some ty
def Ext.ky (x:Ext A B):Ky A B:=λw ty h=>by
 cases w with
 |ref n=>
  unfold jM at h ⊢;dsimp only at h ⊢;cases e:A[n]? with|none=>rw[e]at h;cases h|some o=>rw[e]at h;rw[x.at e];exact h
 |_=>exact h
def Ky.trans {C:Hx}(a:Ky A B)(b:Ky B C):Ky A C:=λw ty h=>b w ty (a w ty h)
section
def NV:jM (.ref A.length) (A++[.lst ws])=some .lst:=by unfold jM;dsimp only;rw[qB]
end
structure Kn (n:Nat)(A B:Hx):Prop where
 kp:Kp n A B
 st:G.qS n B
def _root_.G.qS.ty (h:G.qS n A):jM (.ref n) A=some .lst:=by obtain⟨c,b,e,_⟩:=h;unfold jM;dsimp only;rw[e]
def _root_.G.qS.lt (h:G.qS n A):n<A.length:=by obtain⟨c,b,e,_⟩:=h;exact j0 e
def _root_.G.qS.ext (h:G.qS n A)(x:Ext A B):G.qS n B:=by obtain⟨c,b,e,r⟩:=h;exact⟨c,b,x.at e,r⟩
def Kn.ky (s:G.qS n A)(k:Kn n A B):Ky A B:=λw ty h=>by
 cases w with
 |ref i=>
  by_cases q:i=n
  ·subst q
   rw[s.ty]at h;rw[k.st.ty];exact h
  ·unfold jM at h ⊢
   dsimp only at h ⊢
   by_cases z:i<A.length
   ·rw[k.kp.at_ i z q];exact h
   ·rw[az (by lia)]at h;cases h
 |_=>exact h
theorem Kn.trans {C:Hx}(a:Kn n A B)(b:Kn n B C):Kn n A C:=⟨a.kp.trans b.kp,b.st⟩
theorem Kn.ext (s:G.qS n A)(x:Ext A B):Kn n A B:=⟨Kp.ext x,s.ext x⟩
end Mi
namespace G
open PySem L2 Mi
def JM (h:qS n A){m:Int}(c:0<m)(H:m<1000000000000000):∃(r:Nat) (B:Hx),jq [.ref n,.int m] A=.ok (.int r) B/\(r:Int)<m/\Kn n A B/\B.length=A.length:=by obtain⟨r,o,e,a,b,s⟩:=YN h c H;exact⟨r.toNat,A.set n o,by rw[e,Int.toNat_of_nonneg a],by lia,⟨Kp.set,s⟩,bF ..⟩
def B9 {m:Int}(h:qS n A)(d:ρ[0]? =some (rO n))(H:me ρ A=.ok (.int m) A)(c:0<m)(b:m<1000000000000000):∃(r:Nat) (B:Hx),zP jq (zi zH (zi me zr)) ρ A=.ok (.int r) B/\(r:Int)<m/\Kn n A B/\B.length=A.length:=by obtain⟨r,B,e,a⟩:=JM h c b;exact⟨r,B,(zT (zu (zj d) (zu H zJ))).trans e,a⟩
def MJ {ty:Ty}(h:ty≠.tup):kK ty .tup=false:=by cases ty<;>first|rfl|exact absurd rfl h
def Qk (q:Hx->W->Prop)(A:Hx)(w:W):Prop:=∀B,Ky A B->q B w
def Qk.mono {q:Hx->W->Prop}{w:W}(k:Ky A B)(h:Qk q A w):Qk q B w:=λC q=>h C (k.trans q)
abbrev Jp (A:Hx)(w:W):Prop:=Qk (λB w=>gF [w] B=.ok (.bl false) B) A w
def MV {w:W}{ty:Ty}(h:jM w A=some ty)(H:ty≠.tup):Jp A w:=λB k=>by
 unfold gF Gu;refine qV ?_;dsimp only[KD,mq];have e:gC .tup zH [some w,none] B=.ok (.bl false) B:=(QD (zj rfl) (k _ _ h)).trans (by rw[MJ H])
 have E:ZR (kh (gC .tup zH)) (kh (gI Kf Kf qT (mQ qf (zN zH)) WU)) [some w,none] B=.ok (.bl true) B:=by
  unfold ZR;rw[kR e,zK]
  rfl
 exact qk ((yP E).trans (qk (qN zR)))
def ET (q:Hx->W->Prop)(D:Hx)(m:Ev)(b:En):Prop:=∀A,Ext D A->∃w a,m b A=.ok w a/\Ext A a/\Qk q a w
def AT (q:Hx->W->Prop)(D:Hx)(a:Ea)(d:En)(k:Nat):Prop:=∀A,Ext D A->∃b c,a d A=.ok b c/\Ext A c/\b.length=k/\∀w∈b,Qk q c w
section
variable {m:Ev}{a:Ea}{k:Nat}{w:W}{q:Hx->W->Prop}{D:Hx}
def Tj:AT q D zr ρ 0:=λA _=>⟨[],A,rfl,Ext.refl,rfl,λ_ h=>by cases h⟩
def yO (h:ET q D m ρ)(t:AT q D a ρ k):AT q D (zi m a) ρ (k+1):=λA x=>by
 obtain⟨w,i,E,b,f⟩:=h A x;obtain⟨c,g,e,X,l,d⟩:=t i (x.trans b);refine⟨w::c,g,zu E e,b.trans X,by rw[bc,l],λy H=>?_⟩
 rcases cw.mp H with rfl|H
 ·exact f.mono X.ky
 ·exact d y H
def SD (h:∀A,m ρ A=.ok w A)(H:∀B,q B w):ET q D m ρ:=λA _=>⟨w,A,h A,Ext.refl,λB _=>H B⟩
def Zd (h:∀A,m ρ A=.ok w A)(H:∀B,gF [w] B=.ok (.bl false) B:=by intro B;kernel_rfl):ET (λB w=>gF [w] B=.ok (.bl false) B) D m ρ:=SD h H
def i7:ET (λB w=>gF [w] B=.ok (.bl false) B) D X5 ρ:=λA _=>⟨.ref A.length,A++[.dct []],rfl,Ext.one,MV (ty:=.dct) (by unfold jM;dsimp only;rw[qB]) (by decide)⟩
end
section
variable {a:Ea}{k:Nat}{q:Hx->W->Prop}
structure TL (q:Hx->W->Prop)(A:Hx)(r k:Nat)(B:Hx):Prop where
 at_:∃ws,B[r]? =some (.lst ws)/\ws.length=k/\∀w∈ws,Qk q B w
 nw:A.length<=r
 ext:Ext A B
def NH (h:AT q A a ρ k):∃r B,qA a ρ A=.ok (.ref r) B/\TL q A r k B:=by obtain⟨b,d,e,x,l,c⟩:=h A .refl;exact⟨_,_,jx e,⟨b,qB,l,λw H=>(c w H).mono Ext.one.ky⟩,x.len,x.app⟩
def i8 {r j:Nat}(t:TL q A r j B)(h:AT q A a ρ k)(c:ρ[i]? =some (rO r))(f:j+k<=100):∃b C,zh ql (zS i) (qA a) ρ B=.ok (.ref b) C/\TL q A b (j+k) C:=by
 obtain⟨g,e,l,n⟩:=t.at_;obtain⟨U,d,E,X,L,u⟩:=h B t.ext;have x:Ext B (d++[.lst U]):=X.app;refine⟨_,_,(zB (zj c) (jx E)).trans (JC (x.at e) qB (by unfold zX;lia)),⟨g++U,qB,by rw[au,l,L],λw H=>?_⟩,?_,(t.ext.trans x).app⟩
 ·rcases cA.mp H with q|q
  ·exact(n w q).mono (x.app).ky
  ·exact(u w q).mono (Ext.one.trans Ext.one).ky
 ·have:=t.ext.len
  have:=x.len
  lia
end
section
variable {N a:Nat}
def EF (g:t.length<=8)(H:Sq t){m:Ev}{c:Hx}(l:m ρ c=.ok (zm t) B):jW (qy 1 [] (qI m) (zM 0) qH (qe (jW (zN zH)))) ρ c=
  .ok (.ref (B.length+t.length)) (B++(t.map λr=>O.lst (r.map W.int))++[O.lst ((List.range t.length).map λi=>W.ref (B.length+i))]):=by
 obtain⟨b,d,j,e,⟨z,v⟩,o,n⟩:=Ys (nl:=1) (cap:=[]) (tw:=zM 0) (ifs:=zW (.bl true)) (em:=qe (jW (zN zH))) (ρ:=ρ) (A:=c) (N:=t.length)
  (I:=λp b a C=>(∃z,b=[z])/\C=B++((t.take p).map λr=>O.lst (r.map W.int))/\a=(List.range p).map λi=>W.ref (B.length+i)) (Q4 l) (by simp)
  (λp b a C h ⟨⟨z,u⟩,q,f⟩=>by
   subst u q f;refine⟨zo t[p],[some (zo t[p])],?_,rfl,.inl ⟨_,_,_,_,rfl,YB (yZ (yc (w:=zo t[p]) (ws:=t[p].map W.int) (zj rfl) rfl)) ?_,⟨_,rfl⟩,?_,?_⟩⟩
   ·show some (t.map zo)[p]? =_
    rw[ay,ae h];rfl
   ·simp;unfold zX;lia
   ·rw[take_succ h,aN,aP];rfl
   ·rw[bf,aN,au,af,a6,Nat.min_eq_left (bL h)];rfl)
  (λb a C _=>by show some (t.map zo)[t.length]? =_;rw[az (by simp)]) ⟨⟨none,rfl⟩,by simp,by simp⟩
 rw[yZ e,o,n,take_length];simp
end
def D3 {c:En}{N:Nat}{u v g:Nat->W}(t:∀i,i<N->j.at_ A i=some (some (.tup [u i,v i])))(H:j.at_ A N=some none)(b:∀i,i<N->me (some (u i)::some (v i)::c) A=.ok (g i) A):
  ∀(f i:Nat)(x y:Option W)(a:List W),i+f=N->a.length+f<=zX->∃ρ,jc j (jH 0 1) (zW (.bl true)) (qe me) f i (x::y::c) a A=.ok (ρ,a++(List.range' i f).map g) A:=by
 intro f
 induction f with
 |zero=>
  intro i x y a h l
  have:i=N:=by lia
  subst this;refine⟨x::y::c,?_⟩;unfold jc;rw[H];simp
 |succ f I=>
  intro i x y a h l;obtain⟨ρ,e⟩:=I (i+1) (some (u i)) (some (v i)) (a++[g i]) (by lia) (by rw[au,aU];lia)
  refine⟨ρ,?_⟩;rw[jc,t i (by lia)]
  dsimp only;rw[show jH 0 1 (.tup [u i,v i]) (x::y::c)=some (some (u i)::some (v i)::c) from rfl]
  dsimp only[zW];rw[zK];dsimp only;have E:qe me (some (u i)::some (v i)::c) a A=.ok (some (u i)::some (v i)::c,a++[g i]) A:=by unfold qe;rw[b i (by lia),zK,ai (by lia)]
  rw[E,zK];rw[e,aP,range'_succ,aS]
  rfl
def Gk {N:Nat}{u v g:Nat->W}(f:mi ρ A=.ok j A)(b:j.len=N)(d:N<=1000)(H:∀i,i<N->j.at_ A i=some (some (.tup [u i,v i])))(h:j.at_ A N=some none)
  (l:∀i,i<N->me (some (u i)::some (v i)::cap.map λi=>(ρ[i]?).join) A=.ok (g i) A):qy 2 cap mi (jH 0 1) qH (qe me) ρ A=.ok ((List.range N).map g) A:=by
 obtain⟨a,e⟩:=D3 (A:=A) (c:=cap.map λi=>(ρ[i]?).join) H h l N 0 none none [] (by lia) (by unfold zX;simp;lia)
 unfold qy;rw[f,zK,b];show R.bind (R.nox (jc j _ _ _ N 0 (none::none::cap.map λi=>(ρ[i]?).join) [] A)) _=_;rw[e,<- range_eq_range',bN]
 rfl
def Qr {r:R α}{a:α}(h:r=.ok a A):r.nox=.ok a A:=by rw[h];rfl
def NA {m:Ex}{w:W}(h:m (ws.map some++List.replicate (n-ws.length) none) A=.ok (.rt w) A1):gm n m ws A=.ok w A1:=by unfold gm;rw[h];rfl
def UZ {m:Ex}(h:m (ws.map some++List.replicate (n-ws.length) none) A=.ok (.nx ρ) A1):gm n m ws A=.ok .non A1:=by unfold gm;rw[h];rfl
def g8 {M a:Ex}(h:M ρ A=.exc x A1):zy M a ρ A=.exc x A1:=by unfold zy;rw[h,OB]
def UX {m:Ev}(h:m ρ A=.exc x A1):yx m ρ A=.exc x A1:=by unfold yx;rw[h,OB]
def QZ {m:Ex}(h:m (ws.map some++List.replicate (n-ws.length) none) A=.exc x A1):gm n m ws A=.exc x A1:=by unfold gm;rw[h];rfl
def D9 {m M:Ev}{u v:List W}(h:m ρ A=.ok (.tup u) A)(H:M ρ A=.ok (.tup v) A):kI m M ρ A=.ok (wc (.tup u) (.tup v) u.length) A:=by
 unfold kI;rw[h,zK,H,zK]
 rfl
def EM {a:Ea}{x y:List W}{r:Nat}{u e:Option W}(H:A[r]? =some (.lst x))(h:a [u,e,none,rO r] A=.ok y A)(l:x.length+y.length<=100):
  qd 3 (zh ql qv (qA a)) [u,e,none,rO r] A=.ok (.nx [u,e,none,rO (A.length+1)]) (A++[.lst y]++[.lst (x++y)]):=by
 refine(qi ((zB (zj (i:=3) rfl) (jx h)).trans (JC (ju H) qB (by unfold zX;lia)))).trans ?_
 rw[au,aU]
 rfl
def D6 {a:Ea}{x y zs:List W}{L:Hx}{j:Nat}{u e:Option W}(c:L[j]? =some (.lst x))(b:∀m A,a [u,e,none,m] A=.ok y A)(H:x.length+y.length<=100)(h:x++y=zs):
  qd 3 (zh ql qv (qA a)) [u,e,none,rO (A.length+j)] (A++L)=.ok (.nx [u,e,none,rO (A.length+(L.length+1))]) (A++(L++[.lst y,.lst zs])):=by
 have d:(A++L)[A.length+j]? =some (.lst x):=by rw[ar (by lia),show A.length+j-A.length=j by lia];exact c
 rw[EM d (b _ _) H,h,au,aP,aP,Nat.add_assoc]
 rfl
def ZL (i a n:Nat):List W:=(List.range' a n).map λk=>W.bl (decide (k=i))
def G0 {f:Fn}{u:List W}{k:Nat}(n:qQ u=true)(h:f u []=.ok (.ref k) A1)(H:A1[k]? =some (.lst ws))(w:qQ ws=true):iso f u A=.ok (.ref A.length) (A++[.lst ws]):=by unfold iso;rw[ai n,h];dsimp only;rw[H];dsimp only;rw[ai w]
end G
namespace Mi
open PySem L2
section
variable {c:En}{f:Nat}{x:Option W}{w y:W}{acc:List W}{m:Ev}
def ZT (h:n<1000000:=by lia):jv (n:Int)=true:=by unfold jv;rw[ak,aq,aq];lia
def DL (h:j.at_ A i=some none):jc j (zM 0) (zW (.bl true)) (qe me) f i ρ acc A=.ok (ρ,acc) A:=by cases f<;>(unfold jc;rw[h])
def Dn (h:j.at_ A i=some (some w))(a:me (some w::c) A=.ok y A1)(H:acc.length<zX):jc j (zM 0) (zW (.bl true)) (qe me) (f+1) i (x::c) acc A=jc j (zM 0) (zW (.bl true)) (qe me) f (i+1) (some w::c) (acc++[y]) A1:=by
 rw[jc,h];dsimp only[zM,List.set,zW];rw[zK];dsimp only;have e:qe me (some w::c) acc A=.ok (some w::c,acc++[y]) A1:=by unfold qe;rw[a,zK,ai H]
 rw[e,zK]
def Xo (h:m ρ A=.ok (.ref n) A1)(H:A1[n]? =some (.lst ws)):qI m ρ A=.ok ⟨λA i=>(zI (.ref n) A).map λws=>ws[i]?,ws.length⟩ A1:=by
 unfold qI Wy;rw[h,zK];have e:zI (.ref n) A1=some ws:=by unfold zI;dsimp only;rw[H]
 rw[e]
def Je (h:A[n]? =some (.lst ws)):((zI (.ref n) A).map λws=>ws[i]?)=some ws[i]?:=by
 have e:zI (.ref n) A=some ws:=by unfold zI;dsimp only;rw[h]
 rw[e];rfl
def PU {g:W->Option PyData}{d:PyData}{D:List PyData}(h:g w=some d)(r:yJ g ws=some D):yJ g (w::ws)=some (d::D):=by unfold yJ;rw[h,r]
def YH {k:Nat}{v:Int}(h:A[n]? =some (.lst [.int v])):qE A (k+1) (.ref n)=some (.list [.int v]):=by
 unfold qE;have e:zI (.ref n) A=some [.int v]:=by unfold zI;dsimp only;rw[h]
 rw[e];cases k<;>rfl
def Of {k:Nat}{d:List PyData}(h:A[n]? =some (.lst ws))(H:yJ (qE A k) ws=some d):qE A (k+1) (.ref n)=some (.list d):=by
 unfold qE;have e:zI (.ref n) A=some ws:=by unfold zI;dsimp only;rw[h]
 rw[e];dsimp only;rw[H]
 rfl
def Su {a b:W}{d:PyData}(c:qE A 8 a=some d)(H:qE A 8 b=some d)(h:PyData.eqv d d=true):je a b A=.ok (.bl false) A:=by
 show wQ true a b A=_;unfold wQ;rw[c,H];dsimp only;rw[ai rfl,h]
 rfl
end
end Mi
namespace G
open PySem L2 Mi
section
def i9 (a:A[0]? =some (.ro (ns.map W.int)))(k:Nat):∃x:Int,VO [.ref 0,.int k] A=.ok (.int x) A:=by
 have H:zI (.ref 0) A=some (ns.map W.int):=by unfold zI;dsimp only;rw[a]
 have l:mQ qf (zN zH) [rO 0,iV k] A=.ok (.int ns.length) A:=by rw[jP (yc (w:=.ref 0) (A1:=A) (zj rfl) H)];unfold qf;rw[af]
 have e:zh Rc zG (mQ qf (zN zH)) [rO 0,iV k] A=.ok (.bl (decide ((k:Int)<ns.length))) A:=(zB (zj (w:=.int k) rfl) l).trans rfl
 by_cases h:k<ns.length
 ·refine⟨ns[k],qV ?_⟩
  dsimp only[W5,mq];rw[ax (by lia)]at e
  refine qk ((yP e).trans (qk (qN ?_)));refine(zB (x:=.ref 0) (y:=.int k) (A1:=A) (A2:=A) (zj rfl) (zj rfl)).trans ?_;unfold zD;rw[H];dsimp only;rw[GV (v:=.int ns[k]) (by rw[ay,ae h];rfl)]
 ·refine⟨0,qV ?_⟩
  dsimp only[W5,mq];rw[aE (by lia)]at e
  exact(zw ((jK e).trans rfl)).trans rfl
def js (H:A[0]? =some (.ro (ns.map W.int)))(k:Nat):∃o,Yo [.ref 0,.int k] A=.ok (.ref A.length) (A++[o])/\qS A.length (A++[o]):=by
 obtain⟨x,e⟩:=i9 H k;have a:qd 2 (zP VO (zi zH (zi zG zr))) [rO 0,iV k,none] A=.ok (.nx [rO 0,iV k,iV x]) A:=by refine(qi (w:=.int x) (A1:=A) ?_).trans rfl;rw[zT (ws:=[.ref 0,.int k]) (A1:=A) rfl];exact e
 have E:zh LY zQ (zh Lo iN (zW (.int 18))) [rO 0,iV k,iV x] A=.ok (.bl (decide ((1000000000000000000:Int)<=x))) A:=(zB (x:=.int x) (y:=.int 1000000000000000000) (A1:=A) (A2:=A) (zj rfl) rfl).trans rfl
 by_cases h:(1000000000000000000:Int)<=x
 ·refine⟨.lst [.int (x-1000000000000000000),.bl true],qV ?_,x-1000000000000000000,true,qB,by lia,λz=>nomatch z⟩
  dsimp only[Ge,mq];rw[ax h]at E;refine(zw a).trans (qk ((yP E).trans (qk (qN (jx ?_)))))
  rfl
 ·refine⟨.lst [.int (x%2147483647),.bl false],qV ?_,x%2147483647,false,qB,emod_nonneg _ (by decide),λ_=>bM _ (by decide)⟩
  dsimp only[Ge,mq];rw[aE h]at E;refine(zw a).trans ((zw ((jK E).trans rfl)).trans (qk (qN (jx ?_))));refine zu (A1:=A) (A2:=A) ((zB (x:=.int x) (y:=.int 2147483647) (A1:=A) (A2:=A) (zj rfl) rfl).trans (Qz (by decide))) rfl
variable {w:W}
def BO (h:qm t)(A:Hx):gF [zm t] A=.ok (.bl true) A:=Af h A
def kc (h:Jp A w):gF [w] A=.ok (.bl false) A:=h A λ_ _ z=>z
def Od (h:qm t)(A:Hx):VH [zm t] A=.ok .non A:=by refine UZ (ρ:=[some (zm t)]) ?_;dsimp only[W4];refine(zw (ρ1:=[some (zm t)]) (A1:=A) ((jK (A1:=A) ?_).trans rfl)).trans rfl;exact Qr (kR (k:=true) ((zT (ws:=[zm t]) (A1:=A) rfl).trans (BO h A)))
def EY (h:Jp A w):VH [w] A=.exc "NoTable" A:=by refine QZ ?_;dsimp only[W4];exact g8 ((yP (A1:=A) (Qr (kR (k:=false) ((zT (ws:=[w]) (A1:=A) rfl).trans (kc h))))).trans (g8 rfl))
variable {a b k:Nat}
def ke {ty:Ty}(h:jM w A=some ty):(kK ty .int&&!kK ty .bl)=km w:=by
 cases w with
 |ref k=>
  unfold jM at h;dsimp only at h
  split at h
  ·cases h;rfl
  ·cases h;rfl
  ·cases h
 |clo _ _ _=>cases h|xc _=>cases h|fn _=>cases h|_=>cases h;rfl
def Wo {a b:Ev}{p q:Bool}(h:a ρ A=.ok (.bl p) A)(H:b ρ A=.ok (.bl q) A):wF a b ρ A=.ok (.bl (p&&q)) A:=by
 cases p with|true=>exact(Z2 h).trans H|false=>exact JJ h
def OW {ty:Ty}(h:jM w A=some ty):Jw [w] A=.ok (.bl (km w)) A:=by unfold Jw Uo;dsimp only[Uq,mq];refine qV (qk (qN ((Wo (QD (zj rfl) h) (kR (QD (zj rfl) h))).trans ?_)));rw[ke h]
def kl (h:qm t)(a:ρ[i]? =some (some (zm t))):mQ gq (qy 1 [] (qI (zS i)) (zM 0) qH (qe (mQ gq (zN zH)))) ρ A=.ok (.int (qb t-1)) A:=by
 have n:=h.n8;have e:=GK (cap:=[]) (A:=A) (ρ:=ρ) (o:=t) (f:=zo) (m:=zS i) (me:=mQ gq (zN zH)) (G:=λr=>.int (kJ r)) (zj a) (by unfold zX;lia) (λr H=>(jP (yc (w:=zo r) (ws:=r.map W.int) (A1:=A) (zj rfl) rfl)).trans (UW (h.row_ne H)))
 have E:(t.map λr=>W.int (kJ r))=(t.map kJ).map W.int:=by rw[aW];rfl
 rw[E]at e;refine((jP e).trans (UW h.map_ne)).trans ?_
 have:qb t-1=kJ (t.map kJ):=by unfold qb;lia
 rw[this]
def KZ (h:qm t)(A:Hx):W9 [zm t] A=.ok (.int (qb t)) A:=by
 refine ZF (A1:=[]) (Zr t) rfl (qV ?_);dsimp only[VU,mq];refine qk (qN ((zB (kl h rfl) zR).trans ?_));show R.ok (W.int (qb t-1+1)) []=_
 congr 2
 lia
def len_tab (h:ρ[i]? =some (some (zm t))):mQ qf (zN (zS i)) ρ A=.ok (.int t.length) A:=by
 have:=Wi (ws:=t.map zo) (A:=A) h
 rw[af]at this;exact this
end
section
variable {N b:Nat}
def B5 {g:Nat->Int}{k:Int}(h:b<N):((List.range N).map λj=>W.int (g j)).set b (.int k)=(List.range N).map λj=>W.int (if j=b then k else g j):=by
 apply ext_getElem?
 intro i
 by_cases H:i<N
 ·by_cases q:b=i
  ·subst q
   rw[av (by simpa using H),ay,aQ H]
   simp
  ·rw[aw q,ay,ay,aQ H]
   simp[Ne.symm q]
 ·rw[az (by simp;lia),az (by simp;lia)]
end
structure LC (K:Nat)(μ:Nat->Nat->Int)(C:Hx):Prop where
 top:C[2 * K]? =some (.lst ((List.range K).map λi=>W.ref (2 * i+1)))
 row:∀i,i<K->C[2 * i+1]? =some (.lst ((List.range K).map λj=>W.int (μ i j)))
section
variable {K a b j:Nat}{μ:Nat->Nat->Int}{C:Hx}
def LC.put (h:LC K μ C)(f:i<K)(e:j<K)(k:Int):∃b,gQ (.ref (2 * i+1)) (.int j) (.int k) C=.ok () b/\LC K (JY μ i j k) b:=by
 have r:=h.row i f;have H:=j0 r;refine⟨_,Aw r (by simp;lia),?_,λc d=>?_⟩
 ·rw[aw (by lia)];exact h.top
 ·by_cases q:c=i
  ·subst q
   rw[av H,B5 e]
   congr 3
   funext a
   unfold JY
   by_cases z:a=j
   ·rw[ai z,ai ⟨rfl,z⟩]
   ·rw[aj z,aj (by rintro⟨_,w⟩;exact z w)]
  ·rw[aw (by lia),h.row c d]
   congr 3
   funext a
   unfold JY;rw[aj (by rintro⟨w,_⟩;exact q w)]
def LC.aug (h:LC K μ C){mo mi:Ev}(o:mo ρ C=.ok (.ref (2 * i+1)) C)(b:mi ρ C=.ok (.int j) C)(a:i<K)(H:j<K):∃c,Xy mo mi qT ρ C=.ok (.nx ρ) c/\LC K (JY μ i j (μ i j+1)) c:=by
 obtain⟨c,e,l⟩:=h.put a H (μ i j+1);refine⟨c,?_,l⟩;unfold Xy;rw[o,zK,b,zK];dsimp only;rw[ai (by lia),h.row i a]
 dsimp only;rw[aB,ay,aQ H];show R.bind (gQ (.ref (2 * i+1)) (.int j) (.int (μ i j+1)) C) _=_;rw[e,zK]
def LC.ix (h:LC K μ C){m M:Ev}(b:m ρ C=.ok (.ref (2 * K)) C)(H:M ρ C=.ok (.int i) C)(a:i<K):zh zD m M ρ C=.ok (.ref (2 * i+1)) C:=
 (zB b H).trans (wM h.top (by rw[ay,aQ a];rfl))
def rep1 (w:W):∀n:Nat,(List.replicate n [w]).flatten=(List.range n).map λ_=>w:=λn=>by
 rw[List.map_const',aF]
 induction n with|zero=>rfl|succ n i=>rw[ba,a8,i];rfl
def Cm (n:K<=8){x0 x1 x2 x4:Option W}{l:List (Option W)}:∃C,jW (qy 1 [3] (j8 qv) (zM 0) qH (qe (zh qt (qA (zi qG zr)) zG))) (x0::x1::x2::iO K::x4::l) []=.ok (.ref (2 * K)) C/\LC K (λ_ _=>0) C:=by
 have r:=yI (m:=zS 3) (ρ:=x0::x1::x2::iO K::x4::l) (A:=[]) (k:=(K:Int)) rfl (ZW)
 rw[aB]at r;obtain⟨g,o,B,e,_,H,h⟩:=Ys (nl:=1) (cap:=[3]) (tw:=zM 0) (ifs:=zW (.bl true)) (em:=qe (zh qt (qA (zi qG zr)) zG)) (N:=K)
  (I:=λi p o B=>(∃y,p=[y,iO K])/\(B.length=2 * i/\∀c,c<i->B[2 * c+1]? =some (.lst ((List.range K).map λj=>W.int 0)))/\o=(List.range i).map λc=>W.ref (2 * c+1)) r rfl
  (λi p o B b ⟨⟨y,a⟩,⟨d,H⟩,h⟩=>by
   subst a h;refine⟨_,_,ym b,rfl,.inl ⟨B,_,_,B++[.lst [.int 0]]++[.lst ((List.range K).map λj=>W.int 0)],rfl,YB (y:=.ref (2 * i+1)) ?_ (by rw[af,aF];unfold zX;lia),⟨_,rfl⟩,⟨by simp;lia,λc f=>?_⟩,by rw[bf,aN];rfl⟩⟩
   ·refine(zB (jx (zu zR zJ)) (zj (i:=1) (w:=.int K) rfl)).trans ?_
    unfold qt;dsimp only;rw[qB];dsimp only;rw[ai (by rw[ZW,aB];simp;unfold zX;lia),aB,au,d,rep1]
    rfl
   ·by_cases q:c=i
    ·subst q
     rw[ar (by simp;lia)]
     simp[d]
    ·rw[ah (by simp;lia),ah (by lia)]
     exact H c (by lia))
  (λp o B _=>yj) ⟨⟨none,rfl⟩,⟨rfl,λc f=>absurd f (Nat.not_lt_zero _)⟩,rfl⟩
 subst h;refine⟨B++[.lst ((List.range K).map λc=>W.ref (2 * c+1))],?_,?_,λi b=>?_⟩
 ·rw[yZ e,H.1]
 ·rw[<- H.1];exact qB
 ·exact ju (H.2 i b)
def Cr {m:Ev}{k:Nat}(h:m ρ A=.ok (.ref k) A)(a:A[k]? =some (.lst ws))(l:ws.length<=zX){g:W->W}(b:∀w∈ws,me (some w::cap.map λi=>(ρ[i]?).join) A=.ok (g w) A):
  qy 1 cap (qI m) (zM 0) qH (qe me) ρ A=.ok (ws.map g) A:=by
 have e:=w9 (cap:=cap) (me:=me) (ρ:=ρ) (A:=A) (N:=ws.length) (item:=λi=>ws.getD i .non) (g:=λi=>g (ws.getD i .non)) (Qq h a) rfl l
  (λi H=>(kZ a).trans (by rw[ae H,aa,ae H];rfl))
  ((kZ a).trans (by rw[az (ao _)]))
  (λi H=>by
   have:ws.getD i .non=ws[i]:=by rw[aa,ae H];rfl
   rw[this];exact b _ (aK H))
 rw[e]
 congr 1
 apply a9
 ·simp
 ·intro i d c
  have H:i<ws.length:=by simpa using c
  simp[aa,ae H]
theorem LC.tup (h:LC K μ C)(d:K<=8){i:Nat}(b:ρ[i]? =some (rO (2 * K))):mQ jS (qy 1 [] (qI (zS i)) (zM 0) qH (qe (mQ jS (zN zH)))) ρ C=.ok (zm (j5 K μ)) C:=by
 have e:=Cr (cap:=[]) (ws:=(List.range K).map λi=>W.ref (2 * i+1)) (me:=mQ jS (zN zH)) (zj b) h.top (by simp;unfold zX;lia) (g:=λw=>match w with|.ref n=>(match C[n]? with|some (.lst ws)=>.tup ws|_=>.non)|_=>.non) (λw f=>by obtain⟨c,a,rfl⟩:=cx.mp f;have H:=h.row c (cm.mp a);dsimp only;rw[H];exact Ze (yc (w:=.ref (2 * c+1)) (A1:=C) (zj rfl) (by unfold zI;dsimp only;rw[H])))
 rw[Ze e]
 congr 1
 unfold zm j5;rw[aW,aW]
 congr 1
 refine bo λc a=>?_;have H:=h.row c (cm.mp a);show(match C[2 * c+1]? with|some (.lst ws)=>W.tup ws|_=>.non)=zo ((List.range K).map (μ c))
 rw[H];unfold zo;rw[aW]
 rfl
noncomputable def shr (t:bQ)(a b:Nat):Nat->Nat->Nat->Int
 |0=>λ_ _=>0|n+1=>JY (shr t a b n) (at2 t a n).toNat (at2 t b n).toNat (shr t a b n (at2 t a n).toNat (at2 t b n).toNat+1)
def jo (t:bQ)(K a b:Nat):bQ:=j5 K (shr t a b t.length)
def JL (d:qm t)(c:qb t=(K:Int))(H:a<t.length)(h:b<t.length):((at2 t a b).toNat:Int)=at2 t a b/\(at2 t a b).toNat<K:=by have f:=YX d H h;have e:=K6 d H h;lia
def Uv (x:qm t)(f:qb t=(K:Int))(c:a<t.length)(H:b<t.length)(A:Hx):Yl [zm t,.int a,.int b] A=.ok (zm (jo t K a b)) A:=by
 have J:=x.n8;have kb:=kH x;have d:((t.getD a []).map W.int).length=t.length:=by rw[af,x.sq _ (kz c)]
 have u:((t.getD b []).map W.int).length=t.length:=by rw[af,x.sq _ (kz H)]
 obtain⟨C,v,p⟩:=Cm (K:=K) (by lia) (x0:=some (zm t)) (x1:=iO a) (x2:=iO b) (x4:=none) (l:=[none,none])
 obtain⟨g,B,E,L,Y,y,h⟩:=yH (j:=wc (.tup ((t.getD a []).map W.int)) (.tup ((t.getD b []).map W.int)) ((t.getD a []).map W.int).length) (st:=turn (jH 5 6) (zy (Xy (zh zD qw jN) qL qT) zV)) (N:=t.length)
  (I:=λn D B=>LC K (shr t a b n) B/\∃Y y,D=[some (zm t),iO a,iO b,iO K,rO (2 * K),Y,y])
  (λn D B z ⟨l,Y,y,h⟩=>by
   subst h;obtain⟨o,q⟩:=JL x f c z;obtain⟨i,Q⟩:=JL x f H z;obtain⟨w,e,r⟩:=l.aug (ρ:=[some (zm t),iO a,iO b,iO K,rO (2 * K),iV (at2 t a n),iV (at2 t b n)]) (mo:=zh zD qw jN) (mi:=zS 6) (l.ix (zj rfl) (zj (by rw[o];rfl)) q) (zj (by rw[i];rfl)) q Q
   refine⟨.tup [.int (at2 t a n),.int (at2 t b n)],_,w,?_,(jO rfl).trans ((zw e).trans qC),r,_,_,rfl⟩;show some (zip2 ((t.getD a []).map W.int)[n]? ((t.getD b []).map W.int)[n]?)=_;rw[int_at (by rw[x.sq _ (kz c)];exact z),int_at (by rw[x.sq _ (kz H)];exact z)]
   rfl)
  (λD B _=>by
   show some (zip2 ((t.getD a []).map W.int)[t.length]? ((t.getD b []).map W.int)[t.length]?)=_;rw[az (by lia),az (by lia)]
   rfl) t.length 0 [some (zm t),iO a,iO b,iO K,rO (2 * K),none,none] C (by lia) ⟨p,_,_,rfl⟩
 subst h;refine ZF (A1:=B) (Zr t) (ZZ _) (qV ?_);dsimp only[VP,mq];refine(zw (qi ((zT (zu (zj rfl) zJ)).trans ((KZ x []).trans (by rw[f]))))).trans ?_
 refine(zw (qi v)).trans ?_;refine(zw (ρ1:=[some (zm t),iO a,iO b,iO K,rO (2 * K),Y,y]) (A1:=B) ((jy (D9 ((zB (zj rfl) (zj rfl)).trans (JO c)) ((zB (zj rfl) (zj rfl)).trans (JO H)))).trans ?_)).trans (qk (qN (L.tup (by lia) rfl)))
 have:(wc (.tup ((t.getD a []).map W.int)) (.tup ((t.getD b []).map W.int)) ((t.getD a []).map W.int).length).len=t.length:=d
 rw[this];exact E
variable {w:W}
def Np {m:Ev}{a:En}{w:W}(h:m ρ A=.ok w A1)(H:tw w ρ=some a):XO m tw ρ A=.ok (.nx a) A1:=by unfold XO;rw[h,zK,H]
end
def Zm (t:bQ)(a b:Nat):List (Int×Int):=(List.range t.length).map λc=>(at2 t a c,at2 t b c)
def jz (t:bQ):Prop:=∀a b c e,a<t.length->b<t.length->c<t.length->e<t.length->at2 t a b=at2 t c e->(Zm t a b).Perm (Zm t c e)
def Qa (t:bQ)(k:Int):Nat:=((List.range (t.length * t.length)).find? λm=>decide (at2 t (m/t.length) (m%t.length)=k)).getD 0
def UR (t:bQ):Bool:=(List.range t.length).all λa=>(List.range t.length).all λb=>let m:=Qa t (at2 t a b);(Zm t a b).isPerm (Zm t (m/t.length) (m%t.length))
def EG (h:UR t=true):jz t:=λa b c e j i g n f=>by unfold UR at h;rw[aY]at h;have l:=h a (cm.mpr j);rw[aY]at l;have o:=List.isPerm_iff.mp (l b (cm.mpr i));have d:=h c (cm.mpr g);rw[aY]at d;have H:=List.isPerm_iff.mp (d e (cm.mpr n));rw[<- f]at H;exact o.trans H.symm
def O9 {p:bW}(a:p.Nodup){u v:Nat}(H:u<=p.length)(h:v<=p.length)(e:(jn p).getD u 0=(jn p).getD v 0):u=v:=by
 by_cases c:u=0
 ·by_cases b:v=0
  ·lia
  ·exfalso
   subst c;rw[Q2 (v:=v) (by lia) h]at e
   have:(jn p).getD 0 0=0:=rfl
   lia
 ·by_cases b:v=0
  ·exfalso
   subst b;rw[Q2 (v:=u) (by lia) H]at e
   have:(jn p).getD 0 0=0:=rfl
   lia
  ·rw[Q2 (by lia) H,Q2 (by lia) h]at e
   have E:p[u-1]'(by lia)=p[v-1]'(by lia):=by lia
   have:=(getElem_inj a).mp E
   lia
section
variable {p o:bW}
def OC (H:o.Perm (List.range t.length)){a b:Nat}(d:a<t.length)(c:b<t.length):at2 (wD t p o) a b=(jn p).getD (at2 t (o.getD a 0) (o.getD b 0)).toNat 0:=by
 have h:o.length=t.length:=by rw[H.length_eq,aF]
 unfold at2 wD;rw[aa (l:=List.map _ o),ay,ae (by lia)]
 show(List.map _ o).getD b 0=_;rw[aa,ay,ae (by lia)]
 show(jn p).getD (at2 t _ _).toNat 0=_;unfold at2;rw[aa (l:=o) (i:=a),ae (by lia),aa (l:=o) (i:=b),ae (by lia)]
 rfl
def Dv {u v:bQ}{f:Int->Int}(p:u.length=v.length)(n:o.Perm (List.range v.length))(j:∀a b,a<v.length->b<v.length->at2 u a b=f (at2 v (o.getD a 0) (o.getD b 0)))
  (y:∀a b c e,a<v.length->b<v.length->c<v.length->e<v.length->f (at2 v a b)=f (at2 v c e)->at2 v a b=at2 v c e)(s:jz v):jz u:=by
 have l:o.length=v.length:=by rw[n.length_eq,aF]
 have h:∀i,i<v.length->o.getD i 0<v.length:=λi w=>by
  rw[aa,ae (by lia)]
  exact cm.mp (n.mem_iff.mp (aK _))
 have r:∀a b,a<v.length->b<v.length->(Zm u a b).Perm ((Zm v (o.getD a 0) (o.getD b 0)).map λq=>(f q.1,f q.2)):=λa b g d=>by
  unfold Zm;rw[p,aW];have t:(List.range v.length).map (λc=>(at2 u a c,at2 u b c))=(List.range v.length).map λc=>(f (at2 v (o.getD a 0) (o.getD c 0)),f (at2 v (o.getD b 0) (o.getD c 0))):=bo λc H=>by rw[j a c g (cm.mp H),j b c d (cm.mp H)]
  rw[t];have E:=Ym o 0 λc=>(f (at2 v (o.getD a 0) c),f (at2 v (o.getD b 0) c));rw[l]at E;rw[<- E];exact n.map _
 intro a b c e g d H x q;rw[p]at g d H x;rw[j a b g d,j c e H x]at q
 have:=s _ _ _ _ (h a g) (h b d) (h c H) (h e x) (y _ _ _ _ (h a g) (h b d) (h c H) (h e x) q)
 exact(r a b g d).trans ((this.map _).trans (r c e H x).symm)
def FZ (h:qm t)(g:p.Perm (List.range (qb t-1).toNat))(i:o.Perm (List.range t.length))(s:jz t):jz (wD t p o):=by
 have l:p.length=(qb t-1).toNat:=by rw[g.length_eq,aF]
 have kb:=kH h;have n:p.Nodup:=(g.nodup_iff).mpr nodup_range;have j:∀a b,a<t.length->b<t.length->(at2 t a b).toNat<=p.length/\((at2 t a b).toNat:Int)=at2 t a b:=λa b d H=>by
  have:=YX h d H
  have:=K6 h d H
  lia
 refine Dv (f:=λv=>(jn p).getD v.toNat 0) (P2 h g i).2 i (λa b d H=>OC i d H) (λa b c e d H r w q=>?_) s;have u:=j _ _ d H;have K:=j _ _ r w
 have:=O9 n u.1 K.1 q
 lia
variable {a b c e K:Nat}
theorem Yu (e:qm t)(H:a<t.length)(h:b<t.length):∀n,n<=t.length->∀i j:Nat,shr t a b n i j=((((List.range n).map λc=>(at2 t a c,at2 t b c)).count ((i:Int),(j:Int)):Nat):Int)
 |0,_,i,j=>rfl|n+1,hn,i,j=>by
  have I:=Yu e H h n (by lia)
  have f:=(YX e H (show n<t.length by lia)).1
  have K:=(YX e h (show n<t.length by lia)).1
  rw[bf,aN,List.count_append,List.map_singleton,List.count_singleton];show JY (shr t a b n) (at2 t a n).toNat (at2 t b n).toNat (shr t a b n (at2 t a n).toNat (at2 t b n).toNat+1) i j=_;unfold JY
  by_cases q:i=(at2 t a n).toNat/\j=(at2 t b n).toNat
  ·rw[ai q,<- q.1,<- q.2,I,ai (by rw[aL];ext<;>simp<;>lia)]
   lia
  ·rw[aj q,I,aj (by
    rw[aL];intro z;injection z with d Z
    exact q ⟨by lia,by lia⟩)]
   lia
def Ot (f:qm t)(s:jz t)(d:a<t.length)(H:b<t.length)(h:c<t.length)(g:e<t.length)(q:at2 t a b=at2 t c e):jo t K a b=jo t K c e:=by
 unfold jo j5;refine bo λi _=>bo λj _=>?_;rw[Yu f d H _ (ao _),Yu f h g _ (ao _)]
 have:=(s a b c e d H h g q).count_eq ((i:Int),(j:Int))
 unfold Zm at this;rw[this]
end
def Yt {st:W->Ex}{N:Nat}{I:Nat->En->Hx->Prop}{Q:W->Hx->Prop}
  (H:∀i l A,i<N->I i l A->∃w,j.at_ A i=some (some w)/\((∃ρ1 A1,st w l A=.ok (.nx ρ1) A1/\I (i+1) ρ1 A1)∨∃r A1,st w l A=.ok (.rt r) A1/\Q r A1))(d:∀l A,I N l A->j.at_ A N=some none):
  ∀(f i:Nat)(l:En)(A:Hx),i+f=N->I i l A->(∃a A',j3 j st f i l A=.ok (.nx a) A'/\I N a A')∨∃r A',j3 j st f i l A=.ok (.rt r) A'/\Q r A':=by
 intro f
 induction f with
 |zero=>
  intro i l A h b
  have:i=N:=by lia
  subst this;exact .inl ⟨l,A,Uj (d _ _ b),b⟩
 |succ f g=>
  intro i l A h b;obtain⟨w,o,n|n⟩:=H i l A (by lia) b
  ·obtain⟨ρ1,A1,n,c⟩:=n
   rcases g (i+1) ρ1 A1 (by lia) c with ⟨a,A',e,q⟩|⟨r,A',e,q⟩
   ·exact .inl ⟨a,A',(GJ o n).trans e,q⟩
   ·exact .inr ⟨r,A',(GJ o n).trans e,q⟩
  ·obtain⟨r,A1,n,c⟩:=n
   refine .inr ⟨r,A1,?_,c⟩;unfold j3;rw[o];dsimp only;rw[n]
   rfl
noncomputable def Jh (r:bR):PyData:=.tuple (r.map .int)
def SK (t:bQ):PyData:=.tuple (t.map Jh)
theorem GH {f:W->Option PyData}{g:α->W}{h:α->PyData}(e:∀a,f (g a)=some (h a)):∀l:List α,yJ f (l.map g)=some (l.map h)
 |[]=>rfl|a::l=>by
  rw[aS,yJ,e a,GH e l]
  rfl
def U8 (A:Hx)(n:Nat)(r:bR):qE A (n+1) (zo r)=some (Jh r):=by
 show(yJ (qE A n) (r.map W.int)).map PyData.tuple=_;rw[GH (h:=PyData.int) (λi=>by cases n<;>rfl)]
 rfl
def Nd (A:Hx)(n:Nat)(t:bQ):qE A (n+2) (zm t)=some (SK t):=by
 show(yJ (qE A (n+1)) (t.map zo)).map PyData.tuple=_;rw[GH (h:=Jh) (U8 A n)]
 rfl
section
variable {k:Nat}{w:W}{kvs:List (Key×W)}
theorem OG {k:Key}{w:W}:∀{K:List (Key×W)},ki k K=some w->(k,w)∈K
 |[],h=>by cases h|(j,u)::r,h=>by
  have h:(if j=k then some u else ki k r)=some w:=h
  by_cases q:j=k
  ·rw[ai q]at h;cases h;subst q;exact aG ..
  ·rw[aj q]at h;exact aA _ (OG h)
def O7 {f:Fn}{u:List W}{k:Nat}(n:qQ u=true)(h:f u []=.ok (.ref k) A1)(H:A1[k]? =some (.dct kvs))(w:qQ (kvs.map (·.2))=true):iso f u A=.ok (.ref A.length) (A++[.dct kvs]):=by unfold iso;rw[ai n,h];dsimp only;rw[H];dsimp only;rw[ai w]
end
theorem Pm:∀s t:bQ,PyData.eqvAll (s.map Jh) (t.map Jh)=decide (s=t)
 |[],[]=>by simp[PyData.eqvAll]|[],_::_=>by simp[PyData.eqvAll]|_::_,[]=>by simp[PyData.eqvAll]|a::l,b::m=>by simp only[aS,PyData.eqvAll,Pm l m,Jh,PyData.eqv,Ug];rw[Bool.eq_iff_iff];simp
def kr (s t:bQ)(A:Hx):je (zm s) (zm t) A=.ok (.bl (!decide (s=t))) A:=by show wQ true _ _ A=_;unfold wQ;rw[Nd A 6 s,Nd A 6 t];dsimp only;rw[ai rfl,SK,SK,PyData.eqv,Pm]
def kv (r s:bR)(A:Hx):je (zo r) (zo s) A=.ok (.bl (!decide (r=s))) A:=by show wQ true _ _ A=_;unfold wQ;rw[U8 A 7 r,U8 A 7 s];dsimp only;rw[ai rfl,Jh,Jh,PyData.eqv,Ug]
def pre (n a b:Nat):List (Nat×Nat):=((List.range a).flatMap λx=>(List.range n).map λy=>(x,y))++(List.range b).map λy=>(a,y)
def Qc (n:Nat):List (Nat×Nat):=pre n n 0
section
variable {a b:Nat}
def kB:pre n a (b+1)=pre n a b++[(a,b)]:=by
 unfold pre;rw[bf,aN,<- aP]
 rfl
def kC:pre n a n=pre n (a+1) 0:=by unfold pre;rw[bf,bP];simp
def kD {x y:Nat}:(x,y)∈pre n a b↔(x<a/\y<n)∨(x=a/\y<b):=by
 unfold pre;rw[List.mem_append,List.mem_flatMap]
 constructor
 ·rintro(⟨z,h1,h2⟩|h)
  ·obtain⟨u,c,H⟩:=cx.mp h2
   cases H;exact .inl ⟨cm.mp h1,cm.mp c⟩
  ·obtain⟨u,c,H⟩:=cx.mp h
   cases H;exact .inr ⟨rfl,cm.mp c⟩
 ·rintro(⟨h1,h2⟩|⟨rfl,h⟩)
  ·exact .inl ⟨x,cm.mpr h1,cx.mpr ⟨y,cm.mpr h2,rfl⟩⟩
  ·exact .inr (cx.mpr ⟨y,cm.mpr h,rfl⟩)
def US {x y:Nat}:(x,y)∈Qc n↔x<n/\y<n:=by unfold Qc;rw[kD];lia
def AA:(pre n a b).length=a * n+b:=by
 unfold pre;rw[au,af,aF,List.length_flatMap]
 congr 1
 rw[bo (g:=λ_=>n) (λx _=>by rw[af,aF])]
 rw[List.map_const',List.sum_replicate_nat,aF]
variable {e:Nat}{w:W}{acc L:List (Nat×Nat)}{p q:Nat×Nat}
abbrev wJ (t:bQ)(p:Nat×Nat):Int:=at2 t p.1 p.2
def Ji (t:bQ)(a:List (Nat×Nat))(p:Nat×Nat):List (Nat×Nat):=if a.any (λq=>decide (wJ t q=wJ t p)) then a else a++[p]
def yQ (t:bQ)(L:List (Nat×Nat)):List (Nat×Nat):=L.foldl (Ji t) []
def Xd:yQ t (L++[p])=Ji t (yQ t L) p:=by
 unfold yQ;rw[List.foldl_append]
 rfl
def snoc_ind {P:List α->Prop}(H:P [])(h:∀l a,P l->P (l++[a])):∀l,P l:=λl=>by
 have:∀l:List α,P l.reverse:=λl=>by
  induction l with|nil=>exact H|cons a l i=>rw[bK];exact h _ _ i
 have:=this l.reverse
 rwa[List.reverse_reverse]at this
def Cn:(yQ t L).length<=L.length:=by
 refine snoc_ind (P:=λL=>(yQ t L).length<=L.length) (ao _) (λl p i=>?_) L;rw[Xd,au,aU];unfold Ji
 split
 ·lia
 ·rw[au,aU];lia
def OL:∀p∈yQ t L,p∈L:=by
 refine snoc_ind (P:=λL=>∀p∈yQ t L,p∈L) (λ_ h=>h) (λl p i=>?_) L;intro q H;rw[Xd]at H;unfold Ji at H
 split at H
 ·exact bt _ (i q H)
 ·rcases cA.mp H with h|h
  ·exact bt _ (i q h)
  ·exact aR _ h
def Bm:∀p∈L,∃q∈yQ t L,wJ t q=wJ t p:=by
 refine snoc_ind (P:=λL=>∀p∈L,∃q∈yQ t L,wJ t q=wJ t p) (λ_ h=>by cases h) (λl p i=>?_) L
 intro q H;rw[Xd];unfold Ji;rcases cA.mp H with h|h
 ·obtain⟨r,c,b⟩:=i q h
  split
  ·exact⟨r,c,b⟩
  ·exact⟨r,bt _ c,b⟩
 ·rw[cz.mp h]
  split
  ·rename_i a
   obtain⟨r,c,b⟩:=List.any_eq_true.mp a;exact⟨r,c,of_decide_eq_true b⟩
  ·exact⟨p,aR _ (cz.mpr rfl),rfl⟩
def yb (t:bQ)(p:Nat×Nat):Key×W:=(.inl (wJ t p),.tup [.int p.1,.int p.2])
theorem UP {v:Int}:∀acc:List (Nat×Nat),(ki (.inl v) (acc.map (yb t))).isSome=acc.any λq=>decide (wJ t q=v)
 |[]=>rfl|q::l=>by
  show(if (Sum.inl (wJ t q):Key)=.inl v then some _ else ki (.inl v) (l.map (yb t))).isSome=(decide (wJ t q=v) || l.any λq=>decide (wJ t q=v))
  by_cases h:wJ t q=v
  ·rw[ai (by rw[h]),ax h];rfl
  ·rw[aj (λe=>h (by injection e)),aE h,UP l,Bool.false_or]
def CT {x3:Option W}(H:acc.length<1000):
  ∃w,Wa Q3 zG jN (qP (zi zQ (zi qw zr))) [some (zm t),rO 0,iO a,x3,iO b,iV (at2 t a b)] [.dct (acc.map (yb t))]=.ok w [.dct ((Ji t acc (a,b)).map (yb t))]:=by
 have E:Wa Q3 zG jN (qP (zi zQ (zi qw zr))) [some (zm t),rO 0,iO a,x3,iO b,iV (at2 t a b)] [.dct (acc.map (yb t))]=Q3 (.ref 0) (.int (at2 t a b)) (.tup [.int a,.int b]) [.dct (acc.map (yb t))]:=rfl;rw[E];unfold Q3;show ∃w,(if (acc.map (yb t)).length<zX then(match ki (.inl (at2 t a b)) (acc.map (yb t)) with|some w=>R.ok w [.dct (acc.map (yb t))]|none=>.ok (.tup [.int a,.int b]) [O.dct (acc.map (yb t)++[((Sum.inl (at2 t a b):Key),W.tup [.int a,.int b])])]) else .bad)=.ok w [.dct ((Ji t acc (a,b)).map (yb t))]
 rw[ai (by rw[af];unfold zX;lia)]
 have h:=UP (t:=t) (v:=at2 t a b) acc;unfold Ji;cases e:ki (.inl (at2 t a b)) (acc.map (yb t)) with
 |some w=>
  rw[e]at h;rw[ai (show(acc.any λq=>decide (wJ t q=wJ t (a,b)))=true from h.symm)]
  exact⟨w,rfl⟩
 |none=>
  rw[e]at h;rw[aj (show ¬(acc.any λq=>decide (wJ t q=wJ t (a,b)))=true from λz=>by have z:=h.trans z;cases z)]
  exact⟨_,by rw[aN];rfl⟩
def Nt (v:qm t):RS [zm t] []=.ok (.ref 0) [.dct ((yQ t (Qc t.length)).map (yb t))]:=by
 have x:=v.n8;have c:(t.map zo).length=t.length:=af ..;have n:∀a b,a<t.length->b<t.length->(yQ t (pre t.length a b)).length<1000:=λa b f p=>by
  have C:=Cn (t:=t) (L:=pre t.length a b);rw[AA]at C
  have:a * t.length<=8 * 8:=bC (by lia) x
  lia
 obtain⟨g,B,e,H,l,i,r,q,h⟩:=yH (j:=yC (zm t) t.length) (st:=turn (jH 2 3) (zy (jD (Zf qv) (jH 4 5) (zy (yx (Wa Q3 zG jN (qP (zi zQ (zi qw zr))))) zV)) zV)) (N:=t.length)
  (I:=λa u B=>B=[.dct ((yQ t (pre t.length a 0)).map (yb t))]/\∃l i r q,u=[some (zm t),rO 0,l,i,r,q])
  (λa u B f ⟨H,l,i,r,q,h⟩=>by
   subst H h;have o:=v.sq _ (kz f);have d:((t.getD a []).map W.int).length=t.length:=by rw[af,o]
   obtain⟨g,B,e,H,Y,y,h⟩:=yH (j:=yC (.tup ((t.getD a []).map W.int)) ((t.getD a []).map W.int).length) (st:=turn (jH 4 5) (zy (yx (Wa Q3 zG jN (qP (zi zQ (zi qw zr))))) zV)) (N:=t.length)
    (I:=λb u B=>B=[.dct ((yQ t (pre t.length a b)).map (yb t))]/\∃r q,u=[some (zm t),rO 0,iO a,some (zo (t.getD a [])),r,q])
    (λb u B p ⟨H,r,q,h⟩=>by subst H h;obtain⟨w,e⟩:=CT (a:=a) (b:=b) (x3:=some (zo (t.getD a []))) (n a b f p);rw[<- Xd,<- kB]at e;exact⟨_,_,_,YW (int_at),(jO rfl).trans ((zw (wW e)).trans qC),rfl,_,_,rfl⟩)
    (λu B _=>by have:=YT (A:=B) (ws:=(t.getD a []).map W.int);rw[d]at this ⊢;exact this) t.length 0 [some (zm t),rO 0,iO a,some (zo (t.getD a [])),r,q] _ (by lia) ⟨rfl,_,_,rfl⟩
   rw[kC]at H;subst H h;refine⟨.tup [.int a,zo (t.getD a [])],[some (zm t),rO 0,iO a,some (zo (t.getD a [])),Y,y],_,?_,(jO (ρ1:=[some (zm t),rO 0,iO a,some (zo (t.getD a [])),r,q]) rfl).trans ((zw ((jy (Yv (zj rfl))).trans ?_)).trans qC),rfl,_,_,_,_,rfl⟩
   ·have:=YW (A:=[O.dct ((yQ t (pre t.length a 0)).map (yb t))]) (Qy f)
    rw[c]at this;exact this
   ·have:(yC (.tup ((t.getD a []).map W.int)) ((t.getD a []).map W.int).length).len=t.length:=d
    rw[this];exact e)
  (λu B _=>by have:=YT (A:=B) (ws:=t.map zo);rw[c]at this;exact this) t.length 0 [some (zm t),rO 0,none,none,none,none] [.dct []] (by lia)
  ⟨rfl,_,_,_,_,rfl⟩
 subst H h;refine qV ?_;dsimp only[VX,mq];refine(zw (qi (w:=.ref 0) (A1:=[.dct []]) rfl)).trans ?_;have z:Zf zH [some (zm t),rO 0,none,none,none,none] [.dct []]=.ok (yC (zm t) t.length) [.dct []]:=by
  have:=Yv (m:=zS 0) (ρ:=[some (zm t),rO 0,none,none,none,none]) (A:=[.dct []]) (A1:=[.dct []]) (ws:=t.map zo) (zj rfl)
  rw[c]at this;exact this
 exact(zw ((jy z).trans e)).trans (qk (qN (zj rfl)))
def Sf:qQ ((acc.map (yb t)).map (·.2))=true:=by
 induction acc with|nil=>rfl|cons p l i=>exact i
end
section
variable {a b K:Nat}
abbrev L1:Ex:=zy (jB (wF (zh yi yS zG) (zh je (zP Yl (zi zH (zi jN (zi wI zr)))) qw)) (zy (wG (qP (zi zQ (zi qv (zi jN (zi wI zr)))))) zV) zV) zV
abbrev Rf:Ex:=zy (jD (Zf qL) (jH 7 8) L1) zV
abbrev Ic:Ex:=zy (qd 4 (zP Yl (zi zH (zi zQ (zi qv zr))))) (zy (jD (Zf zH) (jH 5 6) Rf) zV)
abbrev fq (t:bQ)(K a b:Nat)(d c Y y:Option W):En:=[some (zm t),iV (at2 t a b),iO a,iO b,some (zm (jo t K a b)),d,c,Y,y]
def C7 (ht:qm t)(M:qb t=(K:Int))(s:jz t)(A:Hx):Kw [zm t] A=.ok .non A:=by
 have n8:=ht.n8;have kb:=kH ht;have d:(t.map zo).length=t.length:=af ..;have P:=Nt ht;generalize D:yQ t (Qc t.length)=ps at P;have J:∀p∈ps,p.1<t.length/\p.2<t.length:=λp E=>US.mp (OL (t:=t) p (by rw[D];exact E))
 have X:∀{a b:Nat},a<t.length->b<t.length->∀{y5 y6 y7 y8:Option W},∃v u f Z,j3 (yC (zm t) t.length) (turn (jH 5 6) Rf) t.length 0 (fq t K a b y5 y6 y7 y8) []=.ok (.nx (fq t K a b v u f Z)) []:=λ {a b} l g {y5 y6 y7 y8}=>by
  obtain⟨n,B,e,H,v,u,f,Z,h⟩:=yH (j:=yC (zm t) t.length) (st:=turn (jH 5 6) Rf) (N:=t.length) (I:=λ_ U B=>B=[]/\∃y5 y6 y7 y8,U=fq t K a b y5 y6 y7 y8)
   (λc U B w ⟨H,y5,y6,y7,y8,h⟩=>by
    subst H h;have C:=ht.sq _ (kz w);have q:((t.getD c []).map W.int).length=t.length:=by rw[af,C]
    obtain⟨n,B,e,H,f,Z,h⟩:=yH (j:=yC (.tup ((t.getD c []).map W.int)) ((t.getD c []).map W.int).length) (st:=turn (jH 7 8) L1) (N:=t.length) (I:=λ_ U B=>B=[]/\∃y7 y8,U=fq t K a b (iO c) (some (zo (t.getD c []))) y7 y8)
     (λe U B he ⟨H,y7,y8,h⟩=>by
      subst H h;have S:zh yi yS zG (fq t K a b (iO c) (some (zo (t.getD c []))) (iO e) (iV (at2 t c e))) []=.ok (.bl (decide (at2 t c e=at2 t a b))) []:=(zB (zj rfl) (zj rfl)).trans (gz _ _ []);have Q:zh je (zP Yl (zi zH (zi jN (zi wI zr)))) qw (fq t K a b (iO c) (some (zo (t.getD c []))) (iO e) (iV (at2 t c e))) []=.ok (.bl (!decide (jo t K c e=jo t K a b))) []:=(zB ((zT (zu (zj rfl) (zu (zj rfl) (zu (zj rfl) zJ)))).trans (Uv ht M w he [])) (zj rfl)).trans (kr _ _ _);have r:=Wo S Q;have hf:(decide (at2 t c e=at2 t a b)&&!decide (jo t K c e=jo t K a b))=false:=by
       by_cases z:at2 t c e=at2 t a b
       ·rw[ax (Ot (K:=K) ht s w he l g z),Bool.not_true,Bool.and_false]
       ·rw[aE z];rfl
      rw[hf]at r;exact⟨_,_,[],YW (int_at),(jO rfl).trans ((zw ((jK r).trans qC)).trans qC),rfl,_,_,rfl⟩)
     (λU B _=>by have:=YT (A:=B) (ws:=(t.getD c []).map W.int);rw[q]at this ⊢;exact this) t.length 0 (fq t K a b (iO c) (some (zo (t.getD c []))) y7 y8) [] (by lia) ⟨rfl,_,_,rfl⟩
    subst H h;refine⟨.tup [.int c,zo (t.getD c [])],fq t K a b (iO c) (some (zo (t.getD c []))) f Z,[],?_,(jO rfl).trans ((zw ((jy (Yv (m:=zS 6) (ws:=(t.getD c []).map W.int) (zj rfl))).trans ?_)).trans qC),rfl,_,_,_,_,rfl⟩
    ·have:=YW (A:=[]) (Qy w)
     rw[d]at this;exact this
    ·rw[show(yC (.tup ((t.getD c []).map W.int)) ((t.getD c []).map W.int).length).len=t.length from q]
     exact e)
   (λU B _=>by have:=YT (A:=B) (ws:=t.map zo);rw[d]at this;exact this) t.length 0 (fq t K a b y5 y6 y7 y8) [] (by lia) ⟨rfl,_,_,_,_,rfl⟩
  subst H h;exact⟨_,_,_,_,e⟩
 obtain⟨n,B,e,H,x,Y,y,y4,y5,y6,y7,y8,h⟩:=yH (j:=Kc (ps.map (yb t))) (st:=turn (Xi 1 2 3) Ic) (N:=ps.length) (I:=λ_ U B=>B=[]/\∃x Y y y4 y5 y6 y7 y8,U=[some (zm t),x,Y,y,y4,y5,y6,y7,y8])
  (λi U B L ⟨H,x,Y,y,y4,y5,y6,y7,y8,h⟩=>by
   subst H h;obtain⟨l,g⟩:=J ps[i] (aK L);generalize E:ps[i]=p at l g;obtain⟨a,b⟩:=p;dsimp only at l g;obtain⟨v,u,f,Z,e⟩:=X l g (y5:=y5) (y6:=y6) (y7:=y7) (y8:=y8);have hm:=Yv (m:=zS 0) (ρ:=fq t K a b y5 y6 y7 y8) (A:=[]) (A1:=[]) (ws:=t.map zo) (zj rfl);rw[d]at hm;refine⟨.tup [.int (at2 t a b),.tup [.int a,.int b]],fq t K a b v u f Z,[],?_,(jO (ρ1:=[some (zm t),iV (at2 t a b),iO a,iO b,y4,y5,y6,y7,y8]) rfl).trans ((zw (ρ1:=fq t K a b y5 y6 y7 y8) (A1:=[]) ((qi ((zT (zu (zj rfl) (zu (zj rfl) (zu (zj rfl) zJ)))).trans (Uv ht M l g []))).trans rfl)).trans ((zw ((jy hm).trans e)).trans qC)),rfl,_,_,_,_,_,_,_,_,rfl⟩;show some ((ps.map (yb t))[i]?.map λp=>W.tup [kW p.1,p.2])=_;rw[ay,ae L,E]
   rfl)
  (λU B _=>by
   show some ((ps.map (yb t))[ps.length]?.map λp=>W.tup [kW p.1,p.2])=_;rw[az (by rw[af];exact ao _)]
   rfl) ps.length 0 [some (zm t),none,none,none,none,none,none,none,none] [] (by lia) ⟨rfl,_,_,_,_,_,_,_,_,rfl⟩
 have hit:Xu (zP W6 (zi zH zr)) [some (zm t),none,none,none,none,none,none,none,none] []=.ok (Kc (ps.map (yb t))) []:=by unfold Xu;dsimp only;have T:zP W6 (zi zH zr) [some (zm t),none,none,none,none,none,none,none,none] []=.ok (.ref 0) [.dct (ps.map (yb t))]:=(zT (zu (zj rfl) zJ)).trans (O7 (Zr t) P rfl Sf);rw[T,zK];exact ai Sf
 have o:=jy (tw:=Xi 1 2 3) (m1:=Ic) hit;rw[show(Kc (ps.map (yb t))).len=ps.length from af ..]at o
 subst H h;refine ZF (A1:=[]) (Zr t) rfl (qV ?_);dsimp only[VQ,mq];exact(zw (o.trans e)).trans (qk (qN zR))
variable {e k:Nat}{w x z:W}{S:Nat->List (bR)}
def kE (r:qm t)(l:qb t=(K:Int))(j:k<K):∃a b:Nat,a<t.length/\b<t.length/\at2 t a b=(k:Int)/\ki (.inl (k:Int)) ((yQ t (Qc t.length)).map (yb t))=some (.tup [.int a,.int b]):=by
 obtain⟨a,b,f,d,e⟩:=QB r (v:=k) (by lia)
 obtain⟨q,h,i⟩:=Bm (t:=t) (a,b) (US.mpr ⟨f,d⟩);have o:=UP (t:=t) (v:=(k:Int)) (yQ t (Qc t.length));rw[show(yQ t (Qc t.length)).any (λq=>decide (wJ t q=(k:Int)))=true from List.any_eq_true.mpr ⟨q,h,ax (i.trans e)⟩]at o
 obtain⟨w,n⟩:=Option.isSome_iff_exists.mp o;obtain⟨p,H,c⟩:=cx.mp (OG n);obtain⟨Z,z⟩:=US.mp (OL p H);unfold yb at c;injection c with E g
 injection E with E
 exact⟨p.1,p.2,Z,z,E,by rw[n,g]⟩
def EV (y:qm t)(c:qb t=(K:Int))(j:∀a b,a<t.length->b<t.length->jo t K a b=S (at2 t a b).toNat)(A:Hx):V5 [zm t] A=.ok (.ref A.length) (A++[.lst ((List.range K).map λk=>zm (S k))]):=by
 have J:=y.n8;have kb:=kH y;have E:=Nt y;have I:∀k:Nat,∃q:Nat×Nat,k<K->q.1<t.length/\q.2<t.length/\at2 t q.1 q.2=(k:Int)/\ki (.inl (k:Int)) ((yQ t (Qc t.length)).map (yb t))=some (.tup [.int q.1,.int q.2]):=λk=>by
  by_cases f:k<K
  ·obtain⟨a,b,C,B,d,l⟩:=kE y c f
   exact⟨(a,b),λ_=>⟨C,B,d,l⟩⟩
  ·exact⟨(0,0),λz=>absurd z f⟩
 obtain⟨x,H⟩:=Classical.axiomOfChoice I;have nr:=Sf (t:=t) (acc:=yQ t (Qc t.length));generalize (yQ t (Qc t.length)).map (yb t)=kvs at E H nr;have r:zP W6 (zi zH zr) [some (zm t),none,none] []=.ok (.ref 0) [.dct kvs]:=(zT (zu (zj rfl) zJ)).trans (O7 (Zr t) E rfl nr);have D:=yI (m:=zP W9 (zi zH zr)) (ρ:=[some (zm t),rO 0,none]) (A:=[.dct kvs]) (A1:=[.dct kvs]) (k:=(K:Int)) ((zT (zu (zj rfl) zJ)).trans ((KZ y _).trans (by rw[c]))) (ZW)
 rw[aB]at D;have p:=w9 (cap:=[1]) (me:=zh Sy zG zH) (ρ:=[some (zm t),rO 0,none]) (A:=[.dct kvs]) (N:=K) (item:=λi=>.int (0+(i:Int))) (g:=λk=>.tup [.int ((x k).1:Int),.int ((x k).2:Int)]) D rfl (by unfold zX;lia) (λi h=>ym h) (yj) (λi h=>by
  refine(zB (zj (i:=1) (w:=.ref 0) rfl) (zj (i:=0) (w:=.int (0+(i:Int))) rfl)).trans ?_;rw[Int.zero_add];show(match ki (.inl (i:Int)) kvs with|some w=>R.ok w [.dct kvs]|none=>.bad)=_
  rw[(H i h).2.2.2])
 have e:=yZ p;have o:=Gk (A:=[.dct kvs]++[.lst ((List.range K).map λk=>.tup [.int ((x k).1:Int),.int ((x k).2:Int)])]) (cap:=[0]) (ρ:=[some (zm t),rO 0,rO 1]) (me:=zP Yl (zi zQ (zi zH (zi zG zr)))) (mi:=qI zQ) (N:=K) (u:=λk=>.int ((x k).1:Int)) (v:=λk=>.int ((x k).2:Int)) (g:=λk=>zm (S k)) (Qq (n:=1) (zj rfl) rfl) (by show((List.range K).map _).length=K;rw[af,aF]) (by lia)
  (λi h=>iZ (n:=1) rfl (by rw[ay,aQ h];rfl))
  (i0 (n:=1) rfl (by rw[af,aF];exact ao _))
  (λi h=>by obtain⟨C,B,d,_⟩:=H i h;refine(zT (ws:=[zm t,.int ((x i).1:Int),.int ((x i).2:Int)]) (zu (zj rfl) (zu (zj rfl) (zu (zj rfl) zJ)))).trans ((Uv y c C B _).trans ?_);rw[j _ _ C B,d,aB])
 refine G0 (k:=2) (A1:=[.dct kvs]++[.lst ((List.range K).map λk=>.tup [.int ((x k).1:Int),.int ((x k).2:Int)])]++[.lst ((List.range K).map λk=>zm (S k))]) (Zr t) (qV ?_) rfl (Qo (λ_=>ZZ _) _);dsimp only[VY,mq];exact(zw (qi r)).trans ((zw (qi e)).trans (qk (qN (yZ o))))
def kF (H:qm t)(h:qb t=(K:Int))(s:jz t)(A:Hx):QT [zm t] A=.ok .non A:=by refine UZ (ρ:=[some (zm t)]) ?_;dsimp only[Kt];exact(zw (wW ((zT (zu (zj rfl) zJ)).trans (Od H A)))).trans ((zw ((jK (Qr ((zB ((zT (zu (zj rfl) zJ)).trans (C7 H h s A)) zR).trans rfl))).trans qC)).trans qC)
def k4 {w:W}(h:Jp A w):QT [w] A=.exc "NoTable" A:=by refine QZ ?_;dsimp only[Kt];exact g8 (UX ((zT (zu (zj rfl) zJ)).trans (EY h)))
def k6 (h:qm t)(e:Kw [zm t] A=.ok (.tup ws) A):QT [zm t] A=.exc "NotSteady" A:=by refine QZ ?_;dsimp only[Kt];exact(zw (wW ((zT (zu (zj rfl) zJ)).trans (Od h A)))).trans (g8 ((yP (Qr ((zB ((zT (zu (zj rfl) zJ)).trans e) zR).trans rfl))).trans (g8 rfl)))
theorem NJ (v:Int):∀(r:bR)(n:Nat),Jg (.int v) (r.map W.int) n=n+r.count v
 |[],_=>rfl|x::r,n=>by
  show Jg (.int v) (r.map W.int) (if (x==v)=true then n+1 else n)=_;rw[NJ v r,List.count_cons]
  by_cases h:x=v
  ·subst h
   simp;lia
  ·simp[h]
noncomputable def qu (t:bQ)(K:Nat):bR:=(List.range K).map λ(k:Nat)=>(((t.getD 0 []).count (k:Int):Nat):Int)
def lb (c:qm t)(H:qb t=(K:Int))(A:Hx):QV [zm t] A=.ok (.ref A.length) (A++[.lst ((qu t K).map W.int)]):=by
 have kb:=kH c;have n:=c.n1;have d:=yI (m:=zP W9 (zi zH zr)) (ρ:=[some (zm t)]) (A:=[]) (A1:=[]) (k:=(K:Int)) ((zT (zu (zj rfl) zJ)).trans ((KZ c _).trans (by rw[H]))) (ZW)
 rw[aB]at d;have e:=w9 (cap:=[0]) (me:=TZ Xb (zh zD zG qG) zH) (ρ:=[some (zm t)]) (A:=[]) (N:=K) (item:=λi=>.int (0+(i:Int))) (g:=λk=>.int (((t.getD 0 []).count (k:Int):Nat):Int)) d rfl (by unfold zX;lia) (λi h=>ym h) (yj) (λi h=>by
  have E:zh zD zG qG (some (W.int (0+(i:Int)))::[0].map λi=>([some (zm t)][i]?).join) []=.ok (.tup ((t.getD 0 []).map W.int)) []:=(zB (zj (w:=zm t) rfl) zR).trans (JO (a:=0) n);unfold TZ;rw[E,zK];dsimp only;rw[show zH (some (W.int (0+(i:Int)))::[0].map λi=>([some (zm t)][i]?).join) []=.ok (.int (0+(i:Int))) [] from zj rfl,zK,Int.zero_add]
  unfold Xb;dsimp only;rw[ai,NJ,zero_add];show(true&&((t.getD 0 []).map W.int).all yA)=true;rw[Bool.true_and,aY];intro w f;obtain⟨v,_,rfl⟩:=cx.mp f
  rfl)
 have b:((List.range K).map λ(k:Nat)=>W.int (((t.getD 0 []).count (k:Int):Nat):Int))=(qu t K).map W.int:=by unfold qu;rw[aW];rfl
 rw[b]at e;exact G0 (k:=0) (A1:=[.lst ((qu t K).map W.int)]) (Zr t) (qV (by dsimp only[V2,mq];exact qk (qN (yZ e)))) rfl (Qo (λ_=>rfl) _)
end
def OI {r:Nat}{l:bW}(h:A[r]? =some (.lst (iL l))):qE A 8 (.ref r)=some (.list (l.map λ(a:Nat)=>PyData.int a)):=by
 show(match zI (.ref r) A with|some w=>(yJ (qE A 7) w).map PyData.list|none=>none)=_
 have:zI (.ref r) A=some (iL l):=by unfold zI;dsimp only;rw[h]
 rw[this];dsimp only;rw[GH (h:=λ(a:Nat)=>PyData.int a) (λa=>rfl)]
 rfl
def ne_nil {r s:Nat}{l:bW}(h:A[r]? =some (.lst (iL l)))(H:A[s]? =some (.lst [])):je (.ref r) (.ref s) A=.ok (.bl (decide (l≠[]))) A:=by
 show wQ true _ _ A=_;unfold wQ;rw[OI h,OI (l:=[]) H];dsimp only;rw[ai rfl]
 congr 2
 rw[PyData.eqv];cases l with|nil=>simp[PyData.eqvAll]|cons a l=>rw[map_nil,SeqAt.eqvAll_other_length (by simp)];simp
def QL (o:bW):W:=.tup (o.map λ(a:Nat)=>W.int a)
def AJ (o:bW):(QL o).nr=true:=by show qQ (o.map λ(a:Nat)=>W.int a)=true;exact Qo (λ_=>rfl) _
abbrev S7:Ev:=zh je (zS 2) (qA zr)
abbrev lg:Ex:=zy (yx (j4 yk (zS 3) (j4 Z1 (zS 2) (zP jq (zi (zS 0) (zi (mQ qf (zN (zS 2))) zr)))))) zV
def Bv {x:Option W}:∀(k f:Nat)(l fd:bW)(A:Hx),l.length=k->k<f->l.length<=100->fd.length+l.length<=100->qS 0 A->A[1]? =some (.lst (iL l))->A[2]? =some (.lst (iL fd))->
  ∃A' d,QG S7 lg f [rO 0,x,rO 1,rO 2] A=.ok (.nx [rO 0,x,rO 1,rO 2]) A'/\qS 0 A'/\A'[2]? =some (.lst (iL d))/\d.Perm (fd++l):=by
 intro k
 induction k with
 |zero=>
  intro f l fd A n hf _ _ v h1 h2;obtain⟨f,rfl⟩:∃I,f=I+1:=⟨f-1,by lia⟩
  have:l=[]:=List.length_eq_zero_iff.mp n
  subst this;refine⟨A++[.lst []],fd,?_,?_,ju h2,by simp⟩
  ·unfold QG
   have p:S7 [rO 0,x,rO 1,rO 2] A=.ok (.bl false) (A++[.lst []]):=(zB (zj (i:=2) rfl) (jx zJ)).trans (ne_nil (l:=[]) (ju h1) qB);rw[p,zK]
  ·obtain⟨c,b,e,r⟩:=v
   exact⟨c,b,ju e,r⟩
 |succ k N=>
  intro f l fd A n hf J Q v h1 h2;obtain⟨f,rfl⟩:∃I,f=I+1:=⟨f-1,by lia⟩
  have p:S7 [rO 0,x,rO 1,rO 2] A=.ok (.bl true) (A++[.lst []]):=by
   refine(zB (zj (i:=2) rfl) (jx zJ)).trans ((ne_nil (ju h1) qB).trans ?_);have z:l≠[]:=λe=>by rw[e]at n;cases n
   rw[ax z]
  have H:qS 0 (A++[.lst []]):=by obtain⟨c,b,e,r⟩:=v;exact⟨c,b,ju e,r⟩
  have g1:=ju (u:=.lst []) h1;have g2:=ju (u:=.lst []) h2;generalize A++[O.lst []]=B at p H g1 g2;obtain⟨r,o,S,M,Z,t⟩:=YN H (m:=(l.length:Int)) (by lia) (by lia)
  obtain⟨q,rfl⟩:=a5 M;have y:q<l.length:=by lia
  have E:mQ qf (zN (zS 2)) [rO 0,x,rO 1,rO 2] B=.ok (.int l.length) B:=by
   rw[jP (yc (w:=.ref 1) (A1:=B) (ws:=iL l) (zj rfl) (by unfold zI;dsimp only;rw[g1]))]
   unfold qf;rw[af]
  have X:zP jq (zi (zS 0) (zi (mQ qf (zN (zS 2))) zr)) [rO 0,x,rO 1,rO 2] B=.ok (.int q) (B.set 0 o):=(zT (zu (zj (i:=0) rfl) (zu E zJ))).trans S;have j:(B.set 0 o)[1]? =some (.lst (iL l)):=by rw[aw (by lia)];exact g1
  have D:(B.set 0 o)[2]? =some (.lst (iL fd)):=by rw[aw (by lia)];exact g2
  have hw:(iL l)[q]? =iV ((l[q]:Nat):Int):=by rw[ay,ae y];rfl
  have L:=(ZC (g:=Z1) (a:=zS 2) (zj rfl) g1 X).trans (ER j hw (by lia))
  have he:(iL l).eraseIdx q=iL (l.eraseIdx q):=by exact Oe _ _ _
  rw[he]at L;have h:((B.set 0 o).set 1 (.lst (iL (l.eraseIdx q))))[2]? =some (.lst (iL fd)):=by rw[aw (by lia)];exact D
  have K:=(ZC (g:=yk) (a:=zS 3) (zj rfl) g2 L).trans (QX h (by rw[af];lia))
  have C:iL fd++[.int ((l[q]:Nat):Int)]=iL (fd++[l[q]]):=by unfold iL;rw[aN];rfl
  rw[C]at K;have hlen:(l.eraseIdx q).length=k:=by rw[List.length_eraseIdx_of_lt y];lia
  obtain⟨A',d,U,s4,Y,P⟩:=N f (l.eraseIdx q) (fd++[l[q]]) (((B.set 0 o).set 1 (.lst (iL (l.eraseIdx q)))).set 2 (.lst (iL (fd++[l[q]])))) hlen (by lia) (by lia) (by rw[au,aU];lia)
   (by obtain⟨c,b,e,r⟩:=t;exact⟨c,b,by rw[aw (by lia),aw (by lia)];exact e,r⟩)
   (by rw[aw (by lia),av (j0 j)]) (by rw[av (j0 h)])
  refine⟨A',d,?_,s4,Y,P.trans ?_⟩
  ·unfold QG
   rw[p,zK];dsimp only;have T:=(zw (m2:=zV) (wW K)).trans qC;show R.bind (zy (yx (j4 yk (zS 3) (j4 Z1 (zS 2) (zP jq (zi (zS 0) (zi (mQ qf (zN (zS 2))) zr)))))) zV [rO 0,x,rO 1,rO 2] B) _=_;rw[T,zK];exact U
  ·rw[aP]
   exact List.Perm.append_left fd (Px (ae y)).symm
def Nr {m:Nat}(h:qS m A)(t:n<=8):∃p o,Yq [.ref m,.int n] A=.ok (QL p) (A.set m o)/\qS m (A.set m o)/\p.Perm (List.range n):=by
 obtain⟨c,b,d,g,j⟩:=h;have q:=j0 d;obtain⟨l,fd,e,⟨C,B,E,H,a⟩,r,f⟩:=Bv (x:=iO n) n 1000 (List.range n) [] [.lst [.int c,.bl b],.lst (iL (List.range n)),.lst []] aF (by lia) (by rw[aF];lia) (by rw[aF];simp;lia) ⟨c,b,rfl,g,j⟩ rfl rfl
 refine⟨fd,.lst [.int C,.bl B],?_,⟨C,B,av q,H,a⟩,f⟩;unfold Yq;refine G6 (A1:=l) d rfl ?_ E (AJ fd);unfold R6;refine qV ?_;dsimp only[V9,mq];refine(zw (ρ1:=[rO 0,iO n,rO 1,none]) (A1:=[.lst [.int c,.bl b],.lst (iL (List.range n))]) ((qi (E6 (zj (i:=1) rfl) (by lia))).trans rfl)).trans ?_
 refine(zw (ρ1:=[rO 0,iO n,rO 1,rO 2]) (A1:=[.lst [.int c,.bl b],.lst (iL (List.range n)),.lst []]) ((qi (jx zJ)).trans rfl)).trans ?_;refine(zw e).trans (qk (qN (Ze (yc (w:=.ref 2) (A1:=l) (ws:=iL fd) (zj rfl) (by unfold zI;dsimp only;rw[r])))))
section
def Ue (h:qm t)(A:Hx):R7 [zm t] A=.ok (.int (qb t)) A:=KZ h A
def Vx (h:qm t){d M mt:Ev}{a b:Nat}(e:mt ρ A=.ok (zm t) A)(c:d ρ A=.ok (.int a) A)(H:M ρ A=.ok (.int b) A)(l:a<t.length)(L:b<t.length):zh zD (zh zD mt d) M ρ A=.ok (.int (at2 t a b)) A:=
 (zB ((zB e c).trans (JO l)) H).trans (wC (by rw[h.sq _ (kz l)];exact L))
def lh (h:qm t){p o:bW}(H:∀a∈o,a<t.length)(q:o.length<=8)(n:(p.length:Int)=qb t-1){r:Nat}(g:A[r]? =some (.lst ((jn p).map W.int))):Uc [zm t,QL o,.ref r] A=.ok (zm (wD t p o)) A:=by
 unfold Uc Pf;refine qV ?_;dsimp only[Ua,mq];refine qk (qN ?_);have E:=GK (cap:=[0,1,2]) (ρ:=[some (zm t),some (QL o),rO r]) (A:=A) (m:=zS 1) (o:=o) (f:=λ(a:Nat)=>W.int a) (me:=mQ jS (qy 1 [0,1,3] (qI (zS 2)) (zM 0) (zW (.bl true)) (qe (zh zD (zS 3) (zh zD (zh zD (zS 2) (zS 1)) (zS 0))))))
  (G:=λa=>zo (o.map λb=>(jn p).getD (at2 t a b).toNat 0)) (zj rfl) (by unfold zX;lia) (λa e=>by
   have j:=GK (cap:=[0,1,3]) (ρ:=[iO a,some (zm t),some (QL o),rO r]) (A:=A) (m:=zS 2) (o:=o) (f:=λ(a:Nat)=>W.int a) (me:=zh zD (zS 3) (zh zD (zh zD (zS 2) (zS 1)) (zS 0)))
    (G:=λb=>.int ((jn p).getD (at2 t a b).toNat 0)) (zj rfl) (by unfold zX;lia) (λb d=>by
     have L:=H a e;have l:=H b d;have u:=(YX h L l).1;have B:=K6 h L l;have v:(at2 t a b).toNat<(jn p).length:=by unfold jn;rw[bc,af];lia
     refine(zB (zj (i:=3) rfl) (Vx h (zj (i:=2) rfl) (zj (i:=1) rfl) (zj (i:=0) rfl) L l)).trans ?_;have c:at2 t a b=((at2 t a b).toNat:Int):=by lia
     rw[c];refine wM g ?_;rw[ay,ae v,aB,aa,ae v]
     rfl)
   refine(Ze j).trans ?_;unfold zo;rw[aW]
   rfl)
 refine(Ze E).trans ?_;unfold wD zm;rw[aW]
 rfl
def OK (h:qm t){m:Nat}(Y:qS m A):∃p o b,Zx [.ref m,zm t] A=.ok (zm (wD t p o)) (A.set m b)/\qS m (A.set m b)/\p.Perm (List.range (qb t-1).toNat)/\o.Perm (List.range t.length):=by
 obtain⟨c,b,P,hc,hb⟩:=Y;have hm:=j0 P;have kb:=kH h;have n8:=h.n8;generalize H:([.lst [.int c,.bl b],.lst [.int 0]]:Hx)=B;have sB:qS 0 B:=by rw[<- H];exact⟨c,b,rfl,hc,hb⟩
 obtain⟨p,g,Q,s1,j⟩:=Nr sB (n:=(qb t-1).toNat) (by lia)
 have I:(B.set 0 g)[1]? =some (.lst [.int 0]):=by rw[<- H];rfl
 have E:(B.set 0 g).length=2:=by rw[<- H];rfl
 generalize B.set 0 g=d at*;have u:(((qb t-1).toNat:Nat):Int)=qb t-1:=by lia
 rw[u]at Q;have ec:qy 1 [] (qI (zP Yq (zi (zS 0) (zi (zh w5 (zS 2) (zW (.int 1))) zr)))) (zM 0) (zW (.bl true)) (qe (zh ql (zW (.int 1)) (zS 0))) [rO 0,some (zm t),iV (qb t),none] B=.ok (p.map λ(k:Nat)=>W.int (1+(k:Int))) d:=by
  have em:zP Yq (zi (zS 0) (zi (zh w5 (zS 2) (zW (.int 1))) zr)) [rO 0,some (zm t),iV (qb t),none] B=.ok (QL p) d:=(zT (ws:=[.ref 0,.int (qb t-1)]) (A1:=B) (zu (zj (i:=0) rfl) (zu ((zB (zj (i:=2) rfl) (zR (w:=.int 1))).trans rfl) zJ))).trans Q;have K:=GK (cap:=[]) (ρ:=[rO 0,some (zm t),iV (qb t),none]) (A:=d) (m:=zW (QL p)) (o:=p) (f:=λ(a:Nat)=>W.int a) (me:=zh ql (zW (.int 1)) (zS 0)) (G:=λ(k:Nat)=>W.int (1+(k:Int))) rfl (by have:=j.length_eq;rw[aF]at this;unfold zX;lia) (λa M=>(zB (zR (w:=.int 1)) (zj (i:=0) rfl)).trans rfl)
  unfold qy at K ⊢;rw[Q4 (m:=zW (QL p)) (A1:=d) rfl,zK]at K;rw[Q4 em,zK];exact K
 have l:p.length=(qb t-1).toNat:=by rw[j.length_eq,aF]
 have J:zh ql (qA (zi (zW (.int 0)) zr)) (jW (qy 1 [] (qI (zP Yq (zi (zS 0) (zi (zh w5 (zS 2) (zW (.int 1))) zr)))) (zM 0) (zW (.bl true)) (qe (zh ql (zW (.int 1)) (zS 0))))) [rO 0,some (zm t),iV (qb t),none] [.lst [.int c,.bl b]]=
   .ok (.ref (d++[O.lst (p.map λ(k:Nat)=>W.int (1+(k:Int)))]).length) (d++[O.lst (p.map λ(k:Nat)=>W.int (1+(k:Int)))]++[O.lst ([.int 0]++p.map λ(k:Nat)=>W.int (1+(k:Int)))]):=by
  refine(zB (x:=.ref 1) (A1:=B) ((jx (ws:=[.int 0]) (A1:=[.lst [.int c,.bl b]]) rfl).trans (by rw[<- H];rfl)) (yZ ec)).trans ?_
  refine JC (ju I) ?_ (by rw[af,l];show 1+_<=zX;unfold zX;lia)
  rw[qB]
 have z:([.int 0]++p.map λ(k:Nat)=>W.int (1+(k:Int)))=(jn p).map W.int:=by unfold jn;rw[aS,aW];rfl
 rw[z]at J;have X:qS 0 (d++[O.lst (p.map λ(k:Nat)=>W.int (1+(k:Int)))]++[O.lst ((jn p).map W.int)]):=by obtain⟨c,b,e,r⟩:=s1;exact⟨c,b,ju (ju e),r⟩
 have N:(d++[O.lst (p.map λ(k:Nat)=>W.int (1+(k:Int)))]++[O.lst ((jn p).map W.int)])[(d++[O.lst (p.map λ(k:Nat)=>W.int (1+(k:Int)))]).length]? =some (.lst ((jn p).map W.int)):=qB;have Z:(d++[O.lst (p.map λ(k:Nat)=>W.int (1+(k:Int)))]).length=3:=by rw[au,E];rfl
 rw[Z]at N J;generalize d++[O.lst (p.map λ(k:Nat)=>W.int (1+(k:Int)))]++[O.lst ((jn p).map W.int)]=C at*;obtain⟨o,L,e3,s2,q⟩:=Nr X (n:=t.length) n8;have hol:o.length=t.length:=by rw[q.length_eq,aF]
 have D:(C.set 0 L)[3]? =some (.lst ((jn p).map W.int)):=by rw[aw (by lia)];exact N
 generalize C.set 0 L=U at*;have e4:=lh h (p:=p) (o:=o) (λa M=>cm.mp (q.mem_iff.mp M)) (by lia) (by lia) D
 obtain⟨S,T,e',v,y⟩:=s2;refine⟨p,o,.lst [.int S,.bl T],?_,⟨S,T,av hm,v,y⟩,j,q⟩;unfold Zx;refine G6 (A1:=U) P (by show((zm t).nr&&true)=true;rw[ZZ];rfl) ?_ e' (ZZ _)
 unfold RH;refine qV ?_;dsimp only[VB,mq];refine(zw (ρ1:=[rO 0,some (zm t),iV (qb t),none]) (A1:=[.lst [.int c,.bl b]]) ((qi ((zT (ws:=[zm t]) (A1:=[.lst [.int c,.bl b]]) rfl).trans (Ue h _))).trans rfl)).trans ?_;refine(zw (ρ1:=[rO 0,some (zm t),iV (qb t),rO 3]) (A1:=C) ((qi J).trans rfl)).trans (qk (qN ?_));refine(zT (ws:=[zm t,QL o,.ref 3]) (A1:=U) (zu (zj (i:=1) rfl) (zu ((zT (ws:=[.ref 0,.int t.length]) (A1:=C) (zu (zj (i:=0) rfl) (zu (iU rfl) zJ))).trans e3) (zu (zj (i:=3) rfl) zJ)))).trans e4
end
theorem Py:∀l:bR,gJ (l.map W.int)=some (l.map λi=>i != 0)
 |[]=>rfl|x::l=>by
  show(match Y7 (.int x),gJ (l.map W.int) with|some k,some K=>some (k::K)|_,_=>none)=_
  rw[Py l]
  rfl
def K2 (l:bR):wH (l.map W.int) A=.ok (.int l.sum) A:=by
 unfold wH;rw[KA]
 have:∀(l:bR)(k:Int),we l k=k+l.sum:=λl=>by
  induction l with|nil=>intro k;show k=k+0;lia|cons x l i=>intro k;show we l (k+x)=_;rw[i,sum_cons];lia
 dsimp only;rw[this,Int.zero_add]
section
variable {K m j:Nat}{w:bR}{S:List (bQ)}
structure Wf (K:Nat)(S:List (bQ)):Prop where
 l:S.length=K
 r:∀t∈S,t.length=K
 c:∀t∈S,∀q∈t,q.length=K
 b:∀t∈S,∀i j,0<=at2 t i j/\at2 t i j<100
def Bg (w:bR):Prop:=∀v∈w,v.natAbs<2 ^ 256
def XD (h:Bg w)(i:Nat):(w.getD i 0).natAbs<2 ^ 256:=by
 by_cases H:i<w.length
 ·rw[aa,ae H]
  exact h _ (aK _)
 ·rw[aa,az (by lia)]
  decide
def N0 {i j:Int}(h:i.natAbs<2 ^ 256)(H:j.natAbs<2 ^ 256):qt (.int i) (.int j) A=.ok (.int (i * j)) A:=by
 unfold qt;dsimp only;rw[ai];unfold Kd;rw[a3,a3]
 right
 right
 rw[ak];exact⟨ax h,ax H⟩
def OF (h:∀v∈w,-100<v/\v<100):Bg w:=λv H=>by have:=h v H;lia
abbrev pS (S:List (bQ))(k i j:Nat):Int:=at2 (S.getD k []) i j
def yD (S:List (bQ))(w:bR)(i j:Nat):Bool:=((S.drop w.length).any λt=>at2 t i j != 0) || decide (w.getD i 0 * w.getD j 0=((List.range w.length).map λk=>pS S k i j * w.getD k 0).sum)
def yg (S:List (bQ))(w:bR):Bool:=(List.range w.length).all λi=>(List.range w.length).all λj=>yD S w i j
def EH {c:En}{j:jA}{N d:Nat}{u v g:Nat->W}(t:∀i,i<N->j.at_ A i=some (some (.tup [u i,v i])))(H:j.at_ A N=some none)(b:∀i,i<N->me (some (u i)::some (v i)::c) A=.ok (g i) A):
  ∀(f i:Nat)(x y:Option W)(a:List W),i+f=N->a.length+f<=zX->∃ρ,jc j (jH 0 1) (zW (.bl true)) (qe me) (f+d) i (x::y::c) a A=.ok (ρ,a++(List.range' i f).map g) A:=by
 intro f
 induction f with
 |zero=>
  intro i x y a h l
  have:i=N:=by lia
  subst this;refine⟨x::y::c,?_⟩;rw[zero_add];cases d<;>(unfold jc;rw[H];simp)
 |succ f I=>
  intro i x y a h l;obtain⟨ρ,e⟩:=I (i+1) (some (u i)) (some (v i)) (a++[g i]) (by lia) (by rw[au,aU];lia)
  refine⟨ρ,?_⟩;rw[show f+1+d=(f+d)+1 by lia,jc,t i (by lia)]
  dsimp only;rw[show jH 0 1 (.tup [u i,v i]) (x::y::c)=some (some (u i)::some (v i)::c) from rfl]
  dsimp only[zW];rw[zK];dsimp only;have E:qe me (some (u i)::some (v i)::c) a A=.ok (some (u i)::some (v i)::c,a++[g i]) A:=by unfold qe;rw[b i (by lia),zK,ai (by lia)]
  rw[E,zK];rw[e,aP,range'_succ,aS]
  rfl
def Fw {j:jA}{N:Nat}{u v g:Nat->W}(l:mi ρ A=.ok j A)(b:N<=j.len)(f:N<=1000)(H:∀i,i<N->j.at_ A i=some (some (.tup [u i,v i])))(h:j.at_ A N=some none)
  (n:∀i,i<N->me (some (u i)::some (v i)::cap.map λi=>(ρ[i]?).join) A=.ok (g i) A):qy 2 cap mi (jH 0 1) qH (qe me) ρ A=.ok ((List.range N).map g) A:=by
 obtain⟨a,e⟩:=EH (A:=A) (c:=cap.map λi=>(ρ[i]?).join) (d:=j.len-N) H h n N 0 none none [] (by lia) (by unfold zX;simp;lia)
 unfold qy;rw[l,zK,show j.len=N+(j.len-N) by lia]
 show R.bind (R.nox (jc j _ _ _ (N+(j.len-N)) 0 (none::none::cap.map λi=>(ρ[i]?).join) [] A)) _=_;rw[e,<- range_eq_range',bN]
 rfl
def lj {n:Nat}{m:Ev}{i:Ev}{w:W}(h:m ρ A=.ok w A1):qy n cap (qI m) tw i em ρ A=qy n cap (qI (zW w)) tw i em ρ A1:=by
 unfold qy qI;rw[h]
 rfl
def Ds {m:Ev}{o:List α}{f:α->W}{G:α->W}(h:m ρ A=.ok (.ref n) A)(b:A[n]? =some (.lst (o.map f)))(l:o.length<=zX)(c:∀a∈o,me (some (f a)::cap.map λi=>(ρ[i]?).join) A=.ok (G a) A):
  qy 1 cap (qI m) (zM 0) qH (qe me) ρ A=.ok (o.map G) A:=by
 have e:=w9 (cap:=cap) (me:=me) (ρ:=ρ) (A:=A) (N:=o.length) (item:=λi=>((o.map f)[i]?).getD .non) (g:=λi=>((o.map G)[i]?).getD .non) (Qq h b) (by rw[af]) l
  (λi H=>(kZ b).trans (by rw[ay,ae H];rfl))
  ((kZ b).trans (by rw[az (by rw[af];exact ao _)]))
  (λi H=>by rw[ay,ay,ae H];exact c _ (aK H))
 rw[e]
 congr 1
 apply a9
 ·simp
 ·intro i j d
  have H:i<o.length:=by simpa using d
  simp[ae H]
def Wb {m p:Ev}{A0:Hx}{k:Nat}(h:m ρ A0=.ok (.ref n) A)(c:A[n]? =some (.lst ws))(a:p ρ A=.ok (.int k) A)(b:k<=ws.length):yz m (j9 p) yL ρ A0=.ok (.ref A.length) (A++[.lst (ws.drop k)]):=by
 have H:j9 p ρ A=.ok (some (k:Int)) A:=by unfold j9;rw[a,zK]
 unfold yz;rw[h,zK,H,zK];show(match A[n]? with|some (O.lst ws)=>R.ok (W.ref A.length) (A++[O.lst (Y8 ws (some (k:Int)) none)])|_=>.bad)=_
 rw[c];dsimp only;unfold Y8;rw[HT.O1,HT.Ck,Nat.min_eq_left b,aZ (by rw[bw];exact ao _)]
def YM {us v:List W}(h:A[n]? =some (.lst us))(i:Nat)(N:Nat):(wc (.ref n) (.tup v) N).at_ A i=some (zip2 us[i]? v[i]?):=by
 show(match zI (.ref n) A,zI (.tup v) A with|some us,some v=>some (zip2 us[i]? v[i]?)|_,_=>none)=_
 have:zI (.ref n) A=some us:=by unfold zI;dsimp only;rw[h]
 rw[this]
 rfl
def NO {m M:Ev}{us v:List W}(h:m ρ A=.ok (.ref n) A)(H:A[n]? =some (.lst us))(a:M ρ A=.ok (.tup v) A):kI m M ρ A=.ok (wc (.ref n) (.tup v) us.length) A:=by
 unfold kI;rw[h,zK,a,zK]
 have:zI (.ref n) A=some us:=by unfold zI;dsimp only;rw[H]
 rw[this]
 rfl
abbrev fB:Ex:=zy (qd 5 (jW (qy 1 [3,4] (qI (yz zH (j9 zQ) yL)) (zM 0) qH (qe (zh zD (zh zD zH zG) zQ))))) (zy (qd 6 (jW (qy 2 [3,4] (kI zH zG) (jH 0 1) qH (qe (zh qt (zh zD (zh zD zH zQ) qv) zG))))) (zy (jB (wF (kh (mQ WE (zN jN))) (zh je (zh qt (zh zD zG qv) (zh zD zG qw)) (mQ wH (zN qL)))) yT zV) zV))
def ll {x5 x6:Option W}(H:Wf K S)(h:A[0]? =some (.lst (S.map zm)))(hm:w.length<=K)(hK:K<=8)(hw:Bg w)(Y:i<w.length)(X:j<w.length):
  ∃y5 y6 B,B[0]? =some (.lst (S.map zm))/\fB [rO 0,some (zo w),iV w.length,iO i,iO j,x5,x6] A=.ok (if yD S w i j then .nx [rO 0,some (zo w),iV w.length,iO i,iO j,y5,y6] else .rt (.bl false)) B:=by
 have p:(S.map zm).length=K:=by rw[af,H.l]
 have e8:w.length<=8:=by lia
 generalize n:([rO 0,some (zo w),iV w.length,iO i,iO j,x5,x6]:En)=ρ;have Q:yz zH (j9 zQ) yL ρ A=.ok (.ref A.length) (A++[.lst ((S.map zm).drop w.length)]):=by subst n;exact Wb (zj rfl) h (zj rfl) (by rw[p];exact hm)
 rw[<- map_drop]at Q;have e5:qy 1 [3,4] (qI (yz zH (j9 zQ) yL)) (zM 0) qH (qe (zh zD (zh zD zH zG) zQ)) ρ A=.ok ((S.drop w.length).map λt=>W.int (at2 t i j)) (A++[.lst ((S.drop w.length).map zm)]):=by
  rw[lj Q];refine Ds (f:=zm) zR qB (by have:=H.l;rw[bw];unfold zX;lia) (λt ht=>?_)
  have o:=bh ht;have U:=H.r t o;subst n;exact(zB ((zB (zj rfl) (zj rfl)).trans (JO (a:=i) (by lia))) (zj rfl)).trans (wC (b:=j) (by rw[H.c t o _ (kz)];lia))
 have J:=yZ e5;have x:(A++[O.lst ((S.drop w.length).map zm)]++[O.lst ((S.drop w.length).map λt=>W.int (at2 t i j))])[0]? =some (.lst (S.map zm)):=ju (ju h);have E:(A++[O.lst ((S.drop w.length).map zm)]++[O.lst ((S.drop w.length).map λt=>W.int (at2 t i j))])[(A++[O.lst ((S.drop w.length).map zm)]).length]? =some (.lst ((S.drop w.length).map λt=>W.int (at2 t i j))):=qB;generalize A++[O.lst ((S.drop w.length).map zm)]++[O.lst ((S.drop w.length).map λt=>W.int (at2 t i j))]=B at*;generalize (A++[O.lst ((S.drop w.length).map zm)]).length=q at*;generalize e:([rO 0,some (zo w),iV w.length,iO i,iO j,rO q,x6]:En)=σ;have ez:kI zH zG σ B=.ok (wc (.ref 0) (zo w) (S.map zm).length) B:=by subst e;exact NO (zj rfl) x (zj rfl)
 have e6:=Fw (cap:=[3,4]) (me:=zh qt (zh zD (zh zD zH zQ) qv) zG) (N:=w.length) (u:=λk=>zm (S.getD k [])) (v:=λk=>.int (w.getD k 0)) (g:=λk=>.int (pS S k i j * w.getD k 0)) ez (by show w.length<=(S.map zm).length;rw[p];exact hm) (by lia)
  (λk L=>(YM x k _).trans (by
   rw[ay,ae (show k<S.length by rw[H.l];lia),int_at L,aa (l:=S),ae (show k<S.length by rw[H.l];lia)]
   rfl))
  ((
   YM x _ _).trans (by
   rw[az (l:=w.map W.int) (by rw[af];exact ao _)]
   cases (S.map zm)[w.length]?<;>rfl))
  (λk L=>by
   have ht:S.getD k []∈S:=by
    rw[aa,ae (show k<S.length by rw[H.l];lia)]
    exact aK _
   have U:=H.r _ ht;have hb:=H.b _ ht i j;subst e;exact(zB ((zB ((zB (zj rfl) (zj rfl)).trans (JO (a:=i) (by lia))) (zj rfl)).trans (wC (b:=j) (by rw[H.c _ ht _ (kz)];lia))) (zj rfl)).trans (yd (by show -(2 ^ 64)<at2 _ i j;lia) (by show at2 _ i j<2 ^ 64;lia)))
 have I:=yZ e6;have Z:(B++[O.lst ((List.range w.length).map λk=>W.int (pS S k i j * w.getD k 0))])[0]? =some (.lst (S.map zm)):=ju x;have D:(B++[O.lst ((List.range w.length).map λk=>W.int (pS S k i j * w.getD k 0))])[q]? =some (.lst ((S.drop w.length).map λt=>W.int (at2 t i j))):=ju E;have y:(B++[O.lst ((List.range w.length).map λk=>W.int (pS S k i j * w.getD k 0))])[B.length]? =some (.lst ((List.range w.length).map λk=>W.int (pS S k i j * w.getD k 0))):=qB;generalize B++[O.lst ((List.range w.length).map λk=>W.int (pS S k i j * w.getD k 0))]=C at*;refine⟨rO q,rO B.length,C,Z,?_⟩;generalize d:([rO 0,some (zo w),iV w.length,iO i,iO j,rO q,rO B.length]:En)=τ;have f1:kh (mQ WE (zN jN)) τ C=.ok (.bl (!((S.drop w.length).any λt=>at2 t i j != 0))) C:=by
  subst d;refine kR ((jP (yc (w:=.ref q) (ws:=((S.drop w.length).map λt=>at2 t i j).map W.int) (A1:=C) (zj rfl) (by unfold zI;dsimp only;rw[D,aW];rfl))).trans ?_)
  show Zg (λks=>ks.any id) _ C=_;unfold Zg;rw[Py,aW];dsimp only;rw[List.any_map]
  rfl
 have f2:zh je (zh qt (zh zD zG qv) (zh zD zG qw)) (mQ wH (zN qL)) τ C=.ok (.bl (!decide (w.getD i 0 * w.getD j 0=((List.range w.length).map λk=>pS S k i j * w.getD k 0).sum))) C:=by subst d;refine(zB ((zB ((zB (zj rfl) (zj rfl)).trans (wC Y)) ((zB (zj rfl) (zj rfl)).trans (wC X))).trans (N0 (XD hw i) (XD hw j))) ((jP (yc (w:=.ref B.length) (ws:=((List.range w.length).map λk=>pS S k i j * w.getD k 0).map W.int) (A1:=C) (zj rfl) (by unfold zI;dsimp only;rw[y,aW];rfl))).trans (K2 _))).trans (Jl _ _ _)
 have hf:wF (kh (mQ WE (zN jN))) (zh je (zh qt (zh zD zG qv) (zh zD zG qw)) (mQ wH (zN qL))) τ C=.ok (.bl (!yD S w i j)) C:=by
  unfold yD;cases M:(S.drop w.length).any λt=>at2 t i j != 0 with|true=>rw[M]at f1;exact JJ f1|false=>rw[M]at f1;rw[Bool.false_or];exact(Z2 f1).trans f2
 have head:∀{z},zy (jB (wF (kh (mQ WE (zN jN))) (zh je (zh qt (zh zD zG qv) (zh zD zG qw)) (mQ wH (zN qL)))) yT zV) zV τ C=z->fB ρ A=z:=λT=>by subst n;subst e;subst d;exact(zw (qi J)).trans ((zw (qi I)).trans T)
 refine head ?_;cases P:yD S w i j with|true=>rw[P]at hf;exact(zw ((jK hf).trans qC)).trans qC|false=>rw[P]at hf;exact qk ((yP hf).trans (qk (qN zR)))
def all_succ {p:Nat->Bool}{k:Nat}:(List.range (k+1)).all p=((List.range k).all p&&p k):=by rw[bf,all_append];simp
def all_false {p:Nat->Bool}{k N:Nat}(H:k<N)(h:p k=false):(List.range N).all p=false:=by
 cases e:(List.range N).all p with|false=>rfl|true=>exact absurd (cy.mp e k (cm.mpr H)) (by rw[h];decide)
abbrev fI:Ex:=zy (jD (j8 zQ) (zM 4) fB) zV
def lp {x4 x5 x6:Option W}(l:Wf K S)(h:A[0]? =some (.lst (S.map zm)))(t:w.length<=K)(n:K<=8)(q:Bg w)(g:i<w.length):
  (∃y4 y5 y6 B,B[0]? =some (.lst (S.map zm))/\(List.range w.length).all (yD S w i)=true/\fI [rO 0,some (zo w),iV w.length,iO i,x4,x5,x6] A=.ok (.nx [rO 0,some (zo w),iV w.length,iO i,y4,y5,y6]) B)∨
  ∃B,B[0]? =some (.lst (S.map zm))/\(List.range w.length).all (yD S w i)=false/\fI [rO 0,some (zo w),iV w.length,iO i,x4,x5,x6] A=.ok (.rt (.bl false)) B:=by
 have c:=yI (m:=zQ) (ρ:=[rO 0,some (zo w),iV w.length,iO i,x4,x5,x6]) (A:=A) (A1:=A) (k:=(w.length:Int)) (zj rfl) (ZW)
 rw[aB]at c;rcases Yt (j:=jQ 0 w.length) (st:=turn (zM 4) fB) (N:=w.length) (I:=λk p B=>B[0]? =some (.lst (S.map zm))/\(List.range k).all (yD S w i)=true/\∃y4 y5 y6,p=[rO 0,some (zo w),iV w.length,iO i,y4,y5,y6]) (Q:=λr B=>r=.bl false/\B[0]? =some (.lst (S.map zm))/\(List.range w.length).all (yD S w i)=false)
  (λk p B a ⟨u,H,y4,y5,y6,e⟩=>by
   subst e;refine⟨_,ym a,?_⟩;obtain⟨Z,z,C,d,o⟩:=ll (x5:=y5) (x6:=y6) (j:=k) l u t n q g a;have E:=(jO (tw:=zM 4) (w:=.int (0+(k:Int))) (ρ:=[rO 0,some (zo w),iV w.length,iO i,y4,y5,y6]) (ρ1:=[rO 0,some (zo w),iV w.length,iO i,iO k,y5,y6]) (A:=B) (m1:=fB) (by rw[Int.zero_add];rfl)).trans o
   cases hf:yD S w i k with
   |true=>
    rw[hf]at E;exact .inl ⟨_,C,E,d,by rw[all_succ,H,hf];rfl,_,_,_,rfl⟩
   |false=>
    rw[hf]at E;exact .inr ⟨_,C,E,rfl,d,all_false a hf⟩)
  (λp B _=>yj) w.length 0 [rO 0,some (zo w),iV w.length,iO i,x4,x5,x6] A (by lia) ⟨h,rfl,_,_,_,rfl⟩ with ⟨f,B,e,b,H,y4,y5,y6,rfl⟩|⟨r,B,e,rfl,b,H⟩
 ·exact .inl ⟨y4,y5,y6,B,b,H,(zw ((jy c).trans e)).trans qC⟩
 ·exact .inr ⟨B,b,H,qk ((jy c).trans e)⟩
def lq (g:Wf K S)(x:w.length<=K)(n:K<=8)(v:Bg w):∃B,Tz [.ref 0,zo w] [.lst (S.map zm)]=.ok (.bl (yg S w)) B/\B[0]? =some (.lst (S.map zm)):=by
 have l:mQ qf (zN zG) [rO 0,some (zo w),none,none,none,none,none] [.lst (S.map zm)]=.ok (.int w.length) [.lst (S.map zm)]:=by rw[jP (yc (w:=zo w) (ws:=w.map W.int) (A1:=[.lst (S.map zm)]) (zj rfl) rfl)];unfold qf;rw[af]
 have E:=yI (m:=zQ) (ρ:=[rO 0,some (zo w),iV w.length,none,none,none,none]) (A:=[.lst (S.map zm)]) (A1:=[.lst (S.map zm)]) (k:=(w.length:Int)) (zj rfl) (ZW)
 rw[aB]at E;unfold Tz;rcases Yt (j:=jQ 0 w.length) (st:=turn (zM 3) fI) (N:=w.length) (I:=λk u B=>B[0]? =some (.lst (S.map zm))/\(List.range k).all (λi=>(List.range w.length).all λj=>yD S w i j)=true/\∃y q p Y,u=[rO 0,some (zo w),iV w.length,y,q,p,Y]) (Q:=λr B=>r=.bl false/\B[0]? =some (.lst (S.map zm))/\yg S w=false)
  (λk u B a ⟨D,H,y,q,p,Y,e⟩=>by
   subst e;refine⟨_,ym a,?_⟩;have t:=jO (tw:=zM 3) (w:=.int (0+(k:Int))) (ρ:=[rO 0,some (zo w),iV w.length,y,q,p,Y]) (ρ1:=[rO 0,some (zo w),iV w.length,iO k,q,p,Y]) (A:=B) (m1:=fI) (by rw[Int.zero_add];rfl)
   rcases lp (x4:=q) (x5:=p) (x6:=Y) (i:=k) g D x n v a with ⟨o,Z,z,C,b,h,d⟩|⟨C,b,h,d⟩
   ·exact .inl ⟨_,C,t.trans d,b,by rw[all_succ,H];exact h,_,_,_,_,rfl⟩
   ·exact .inr ⟨_,C,t.trans d,rfl,b,all_false a h⟩)
  (λu B _=>yj) w.length 0 [rO 0,some (zo w),iV w.length,none,none,none,none] [.lst (S.map zm)] (by lia) ⟨rfl,rfl,_,_,_,_,rfl⟩ with ⟨f,B,e,c,H,y,q,p,Y,rfl⟩|⟨r,B,e,rfl,c,H⟩
 ·refine⟨B,qV ?_,c⟩
  rw[show yg S w=true from H]
  dsimp only[Xx,mq];exact(zw (qi l)).trans ((zw ((jy E).trans e)).trans (qk (qN zR)))
 ·refine⟨B,qV ?_,c⟩
  rw[H];dsimp only[Xx,mq];exact(zw (qi l)).trans (qk ((jy E).trans e))
def DZ {f:Fn}{U:List W}{v:W}(H:A[n]? =some (.lst ws))(b:qQ ws=true)(u:qQ U=true)(h:f (.ref 0::U) [.lst ws]=.ok v A1)(c:A1[0]? =some (.lst ws))(a:v.nr=true):wj f (.ref n::U) A=.ok v A:=by
 unfold wj;dsimp only;rw[H];dsimp only;rw[b,u,h];dsimp only[Bool.and_true,if_true];rw[List.head?_eq_getElem?,c];dsimp only;rw[b,a]
 have:A.set n (.lst ws)=A:=by
  apply ext_getElem?
  intro i
  by_cases h:n=i
  ·subst h
   rw[av (j0 H),H]
  ·rw[aw h]
 rw[this]
 rfl
def lr (H:Wf K S)(d:w.length<=K)(a:K<=8)(c:Bg w)(h:A[n]? =some (.lst (S.map zm))):Wc [.ref n,zo w] A=.ok (.bl (yg S w)) A:=by obtain⟨B,e,b⟩:=lq H d a c;exact DZ h (Qo (λ_=>ZZ _) _) (by show((zo w).nr&&true)=true;rw[JH];rfl) e b rfl
end
noncomputable def dn (s:Int):bR:=(List.range (2 * s.toNat+1)).map λ(i:Nat)=>s-(i:Int)
def ext (s:Int)(w:bR):bQ:=(dn s).map λv=>w++[v]
def step (q:List Int->Bool)(L:bQ)(s:Int):bQ:=(L.flatMap (ext s)).filter q
def ZP (p:Nat->List Int->Bool)(z:bR):Nat->List (bR)
 |0=>[[1]]|k+1=>step (p (k+1)) (ZP p z k) (z.getD (k+1) 0)
abbrev yM (S:List (bQ))(z:bR):Nat->List (bR):=ZP (λ_=>yg S) z
def Xw (s:Int):(dn s).length=2 * s.toNat+1:=by unfold dn;rw[af,aF]
def Xt {s v:Int}(a:0<=s:=by lia):v∈dn s↔-s<=v/\v<=s:=by
 unfold dn;rw[mem_map]
 constructor
 ·rintro⟨i,H,rfl⟩
  have:=cm.mp H
  lia
 ·intro h
  exact⟨(s-v).toNat,cm.mpr (by lia),by lia⟩
def three {s:Nat}:2 * s+1<=3 ^ s:=by
 induction s with|zero=>decide|succ s i=>rw[Nat.pow_succ];lia
section
variable {K k:Nat}{w z:bR}{L:bQ}{s:Int}
def YG {x:bR}:x∈ext s w↔∃v∈dn s,x=w++[v]:=by unfold ext;rw[mem_map];exact⟨λ⟨v,h,e⟩=>⟨v,h,e.symm⟩,λ⟨v,h,e⟩=>⟨v,h,e.symm⟩⟩
def CB {q:List Int->Bool}:(step q L s).length<=L.length * 3 ^ s.toNat:=by
 unfold step;refine a4 (length_filter_le _ _) ?_
 induction L with
 |nil=>rw[flatMap_nil];exact zero_le _|cons w L i=>
  rw[flatMap_cons,au,bc,succ_mul]
  have:(ext s w).length<=3 ^ s.toNat:=by unfold ext;rw[af,Xw];exact three
  lia
def Tc (M:bQ):(M.flatMap (ext s)).length=M.length * (2 * s.toNat+1):=by
 induction M with
 |nil=>rw[flatMap_nil];show 0=0 * _;rw[Nat.zero_mul]|cons w M i=>
  rw[flatMap_cons,au,i,bc,Nat.add_mul M.length 1,Nat.one_mul,add_comm];unfold ext;rw[af,Xw]
structure Zs (K:Nat)(z:bR):Prop where
 l:z.length=K
 p:∀v∈z,1<=v
 s:z.sum<=8
 h:z.getD 0 0=1
theorem We:∀(z:bR),(∀v∈z,1<=v)->∀v∈z,0<=z.sum/\v<=z.sum
 |[],_,v,h=>by cases h|x::z,p,v,H=>by
  have c:=p x (aG ..);have b:0<=z.sum:=by
   cases z with|nil=>exact Int.le_refl _|cons y Z=>exact(We (y::Z) (λu a=>p u (aA _ a)) y (aG ..)).1
  rw[sum_cons];rcases cw.mp H with rfl|H
  ·lia
  ·have:=(We z (λu a=>p u (aA _ a)) v H).2
   lia
def Zs.le (h:Zs K z)(H:k<K):1<=z.getD k 0/\z.getD k 0<=8:=by
 have a:z.getD k 0∈z:=by
  rw[aa,ae (by rw[h.l];exact H)]
  exact aK _
 have:=We z h.p _ a
 have:=h.p _ a
 have:=h.s
 lia
theorem Jy {p:Nat->List Int->Bool}(a:Zs K z):∀k,k<K->∀w∈ZP p z k,w.length=k+1/\(∀v∈w,-9<v/\v<9)/\w.getD 0 0=1/\∀i,i<=k->-(z.getD i 0)<=w.getD i 0/\w.getD i 0<=z.getD i 0
 |0,c,w,h=>by
  have:w=[1]:=cz.mp h
  subst this;refine⟨rfl,λv b=>by rw[cz.mp b];lia,rfl,λi f=>?_⟩
  have:i=0:=by lia
  subst this;rw[a.h];show -1<=(1:Int)/\(1:Int)<=1;lia
 |k+1,c,w,h=>by
  obtain⟨x,d,n⟩:=List.mem_flatMap.mp (List.mem_filter.mp h).1;obtain⟨v,b,rfl⟩:=YG.mp n;obtain⟨q,o,j,g⟩:=Jy (p:=p) a k (by lia) x d
  have Z:=a.le c;have D:=(Xt).mp b
  refine⟨by rw[au,q];rfl,λu H=>?_,?_,λi f=>?_⟩
  ·rcases cA.mp H with H|H
   ·exact o u H
   ·rw[cz.mp H];lia
  ·rw[aa,ah (by lia),<- aa]
   exact j
  ·by_cases e:i=k+1
   ·subst e
    rw[aa (l:=x++[v]),ar (by lia),show k+1-x.length=0 by lia]
    exact D
   ·rw[aa (l:=x++[v]),ah (by lia),<- aa]
    exact g i (by lia)
theorem O6 {p:Nat->List Int->Bool}(h:Zs K z):∀k,k<K->(ZP p z k).length<=3 ^ (((z.drop 1).take k).sum).toNat
 |0,_=>by show 1<=3 ^ 0;decide|k+1,H=>by
  have i:=O6 (p:=p) h k (by lia)
  have Z:=h.le H;have e:(z.drop 1).take (k+1)=(z.drop 1).take k++[z.getD (k+1) 0]:=by
   rw[List.take_succ,List.getElem?_drop,add_comm 1 k,ae (by rw[h.l];exact H),aa,ae (by rw[h.l];exact H)]
   rfl
  have n:0<=((z.drop 1).take k).sum:=by
   cases q:(z.drop 1).take k with
   |nil=>exact Int.le_refl _|cons y l=>
    refine(We (y::l) (λu a=>h.p u ?_) y (aG ..)).1;rw[<- q]at a;exact bh (List.mem_of_mem_take a)
  have S:=CB (q:=p (k+1)) (L:=ZP p z k) (s:=z.getD (k+1) 0);rw[e,sum_append,List.sum_singleton,Int.toNat_add n (by lia),Nat.pow_add]
  exact a4 S (Nat.mul_le_mul_right _ i)
def UQ {p:Nat->List Int->Bool}(h:Zs K z)(c:k<K):(ZP p z k).length<=2187:=by
 refine a4 (O6 h k c) ?_
 have:(((z.drop 1).take k).sum).toNat<=7:=by
  have a:∀l:bR,(∀v∈l,1<=v)->0<=l.sum:=λl b=>by
   cases l with|nil=>exact Int.le_refl _|cons y l=>exact(We (y::l) b y (aG ..)).1
  have e:z.sum=(z.take 1).sum+((z.drop 1).take k).sum+((z.drop 1).drop k).sum:=by rw[<- sum_append,<- sum_append,aP,take_append_drop,take_append_drop]
  have A:1<=(z.take 1).sum:=by
   cases z with
   |nil=>have:=h.l;simp at this;lia|cons x z=>
    have:=h.p x (aG ..)
    simp;lia
  have a2:=a ((z.drop 1).drop k) λv H=>h.p v (bh (bh H))
  have:=h.s
  lia
 exact Nat.pow_le_pow_right (by decide) this
variable {m j:Nat}{S:List (bQ)}
def KJ {us vs:List W}(h:us.length+vs.length<=1000):ql (.tup us) (.tup vs) A=.ok (.tup (us++vs)) A:=by unfold ql;dsimp only;rw[ai (by unfold zX;lia)]
abbrev Rj:Em:=Jb (XA zQ (zh w5 (gE J7 zQ) qT)) (zM 1) qH (qe (zh ql zH (qP (zi zG zr))))
def lx {x1:Option W}{acc:List W}(t:0<=s)(o:s<=8)(q:w.length<=8)(n:acc.length<=90000):∃Y,Rj [some (zo w),x1,iV s] acc A=.ok ([some (zo w),Y,iV s],acc++(ext s w).map zo) A:=by
 have r:XA zQ (zh w5 (gE J7 zQ) qT) [some (zo w),x1,iV s] A=.ok (Ka s (2 * s.toNat+1)) A:=by
  have E:zh w5 (gE J7 zQ) qT [some (zo w),x1,iV s] A=.ok (.int (-s-1)) A:=(zB (x:=.int (-s)) (A1:=A) ((gg (g:=J7) (zj (i:=2) rfl)).trans rfl) zR).trans rfl;unfold XA;rw[show zQ [some (zo w),x1,iV s] A=.ok (.int s) A from zj rfl,zK,E,zK]
  show(if (jv s&&jv (-s-1))=true then R.ok (Ka s (s-(-s-1)).toNat) A else .bad)=_;rw[ai,show(s-(-s-1)).toNat=2 * s.toNat+1 by lia]
  have:s=0∨s=1∨s=2∨s=3∨s=4∨s=5∨s=6∨s=7∨s=8:=by lia
  rcases this with rfl|rfl|rfl|rfl|rfl|rfl|rfl|rfl|rfl<;>decide
 obtain⟨f,d,u,e,E,c,Y,b⟩:=Ov (j:=Ka s (2 * s.toNat+1)) (tw:=zM 1) (ifs:=qH) (em:=qe (zh ql zH (qP (zi zG zr)))) (N:=2 * s.toNat+1) (I:=λk p a B=>B=A/\a=acc++((dn s).take k).map (λv=>zo (w++[v]))/\∃Y,p=[some (zo w),Y,iV s])
  (λk p a B h ⟨E,c,Y,b⟩=>by
   subst E c b;have l:k<(dn s).length:=by rw[Xw];exact h
   have H:(dn s)[k]=s-(k:Int):=by simp[dn]
   refine⟨.int (s-(k:Int)),_,?_,rfl,.inl ⟨_,_,_,_,zR,YB (y:=zo (w++[s-(k:Int)])) ((zB (zj rfl) (gG (zu (zj rfl) zJ))).trans ((KJ ?_).trans ?_)) ?_,rfl,?_,_,rfl⟩⟩
   ·show(if k<2 * s.toNat+1 then some (some (W.int (s-(k:Int)))) else some none)=_
    rw[ai h]
   ·rw[af];show w.length+1<=1000;lia
   ·unfold zo;rw[aN];rfl
   ·rw[au,af,a6];unfold zX;lia
   ·rw[take_succ l,aN,H,aP];rfl)
  (λp a B _=>by
   show(if 2 * s.toNat+1<2 * s.toNat+1 then some (some (W.int (s-((2 * s.toNat+1:Nat):Int)))) else some none)=_;rw[aj (by lia)]) (2 * s.toNat+1) 0 [some (zo w),x1,iV s] acc A (by lia) ⟨rfl,by rw[take_zero,map_nil,aX],_,rfl⟩
 subst E c b;refine⟨Y,?_⟩;show(Jb _ _ _ _ _ _ _)=_;unfold Jb;rw[r,zK];refine e.trans ?_;rw[aZ (by rw[Xw];exact ao _)]
 unfold ext;rw[aW]
 rfl
abbrev Ib:jT:=qy 2 [3] (qI zQ) (zM 0) qH Rj
def lz {x y:Option W}{r:Nat}{a:W}(C:0<=s)(l:s<=8)(j:∀w∈L,w.length<=8)(q:L.length * 17<=90000)(H:A[r]? =some (.lst (L.map zo))):Ib [some a,x,rO r,iV s,y] A=.ok ((L.flatMap (ext s)).map zo) A:=by
 have i:∀k,((L.take k).flatMap (ext s)).length<=L.length * 17:=λk=>by
  rw[Tc];have v:(L.take k).length<=L.length:=by rw[a6];lia
  have u:2 * s.toNat+1<=17:=by lia
  exact bC v u
 obtain⟨g,f,J,e,E,b,_⟩:=Ys (nl:=2) (cap:=[3]) (mi:=qI zQ) (ρ:=[some a,x,rO r,iV s,y]) (tw:=zM 0) (ifs:=qH) (em:=Rj) (N:=L.length) (I:=λk t c B=>B=A/\c=((L.take k).flatMap (ext s)).map zo/\∃d Y,t=[d,Y,iV s]) (Qq (n:=r) (zj rfl) H) (by show(L.map zo).length=L.length;rw[af])
  (λk t c B h ⟨E,b,d,Y,p⟩=>by
   subst E b p;have D:=i k;obtain⟨z,o⟩:=lx (A:=B) (w:=L[k]) (x1:=Y) (acc:=((L.take k).flatMap (ext s)).map zo) C l (j _ (aK h)) (by rw[af];lia)
   refine⟨zo L[k],_,(kZ H).trans (by rw[ay,ae h];rfl),rfl,.inl ⟨_,_,_,_,zR,o,rfl,?_,_,_,rfl⟩⟩
   rw[take_succ h,bP,aN,List.flatMap_singleton])
  (λt c B ⟨E,_⟩=>by subst E;exact(kZ H).trans (by rw[az (by rw[af];exact ao _)]))
  ⟨rfl,by rw[take_zero];rfl,_,_,rfl⟩
 subst E b;rw[aZ (ao _)]at e;exact e
abbrev LN:jT:=qy 1 [1] (qI qw) (zM 0) (zP Wc (zi zG (zi zH zr))) (qe zH)
def lA {x2 x3:Option W}{r:Nat}{a:W}(o:Wf K S)(q:K<=8)(p:∀w∈L,w.length<=K/\∀v∈w,-100<v/\v<100)(u:L.length<=90000)(z:A[0]? =some (.lst (S.map zm)))(H:A[r]? =some (.lst (L.map zo))):LN [some a,rO 0,x2,x3,rO r] A=.ok ((L.filter (yg S)).map zo) A:=by
 obtain⟨i,g,C,e,E,d,_⟩:=Ys (nl:=1) (cap:=[1]) (mi:=qI qw) (ρ:=[some a,rO 0,x2,x3,rO r]) (tw:=zM 0) (ifs:=zP Wc (zi zG (zi zH zr))) (em:=qe zH) (N:=L.length) (I:=λk x c B=>B=A/\c=((L.take k).filter (yg S)).map zo/\∃y,x=[y,rO 0]) (Qq (n:=r) (zj rfl) H) (by show(L.map zo).length=L.length;rw[af])
  (λk x c B h ⟨E,d,y,t⟩=>by
   subst E d t;obtain⟨l,j⟩:=p _ (aK h);have b:=(zT (f:=Wc) (ρ:=[some (zo L[k]),rO 0]) (A:=B) (zu (ma:=zG) (zj rfl) (zu (ma:=zH) (zj rfl) zJ))).trans (lr o l q (OF j) z);refine⟨zo L[k],[some (zo L[k]),rO 0],(kZ H).trans (by rw[ay,ae h];rfl),rfl,?_⟩
   cases hf:yg S L[k] with
   |true=>
    rw[hf]at b;refine .inl ⟨_,_,_,_,b,YB (zj rfl) ?_,rfl,?_,_,rfl⟩
    ·rw[af]
     have:=length_filter_le (yg S) (L.take k)
     rw[a6]at this;unfold zX;lia
    ·rw[take_succ h,filter_append,aN,List.filter_cons_of_pos hf,filter_nil];rfl
   |false=>
    rw[hf]at b;refine .inr ⟨_,b,rfl,?_,_,rfl⟩;rw[take_succ h,filter_append,List.filter_cons_of_neg (by rw[hf];decide),filter_nil,aX])
  (λx c B ⟨E,_⟩=>by subst E;exact(kZ H).trans (by rw[az (by rw[af];exact ao _)]))
  ⟨rfl,by rw[take_zero];rfl,_,rfl⟩
 subst E d;rw[aZ (ao _)]at e;exact e
structure Dt (t:bQ)(K:Nat)(S:List (bQ))(z:bR):Prop where
 tab:qm t
 kd:qb t=(K:Int)
 sd:jz t
 ks:∀A,V5 [zm t] A=.ok (.ref A.length) (A++[.lst (S.map zm)])
 zf:∀A,QV [zm t] A=.ok (.ref A.length) (A++[.lst (z.map W.int)])
 wf:Wf K S
 zs:Zs K z
 k1:1<=K
 k8:K<=8
abbrev sB:Ex:=zy (qd 4 (jW Ib)) (zy (qd 2 (jW LN)) zV)
def lB {r:Nat}{x4:Option W}(h:Dt t K S z)(e:k+1<K)(B:A[0]? =some (.lst (S.map zm)))(f:A[r]? =some (.lst ((yM S z k).map zo))):∃y4 b C,sB [some (zm t),rO 0,rO r,iV (z.getD (k+1) 0),x4] A=.ok (.nx [some (zm t),rO 0,rO b,iV (z.getD (k+1) 0),y4]) C/\Ext A C/\C[b]? =some (.lst ((yM S z (k+1)).map zo)):=by
 have sh:=Jy (p:=λ_=>yg S) h.zs k (by lia)
 have g:(yM S z k).length<=2187:=UQ (p:=λ_=>yg S) h.zs (k:=k) (by lia)
 have Z:=h.zs.le e;have I:=h.k8;have i:=yZ (lz (s:=z.getD (k+1) 0) (x:=rO 0) (y:=x4) (a:=zm t) (by lia) (by lia) (λw j=>by have:=(sh w j).1;lia) (by lia) f)
 have L:∀w∈(yM S z k).flatMap (ext (z.getD (k+1) 0)),w.length<=K/\∀v∈w,-100<v/\v<100:=λw j=>by
  obtain⟨x,c,j⟩:=List.mem_flatMap.mp j;obtain⟨v,d,rfl⟩:=YG.mp j;obtain⟨o,n,_⟩:=sh x c;have D:=(Xt).mp d
  refine⟨by rw[au,o];show k+1+1<=K;lia,λu H=>?_⟩
  rcases cA.mp H with H|H
  ·have:=n u H;lia
  ·rw[cz.mp H];lia
 have l:((yM S z k).flatMap (ext (z.getD (k+1) 0))).length<=90000:=by
  rw[Tc];have q:2 * (z.getD (k+1) 0).toNat+1<=17:=by lia
  exact a4 (bC g q) (by decide)
 have E:=yZ (lA (x2:=rO r) (x3:=iV (z.getD (k+1) 0)) (a:=zm t) (A:=A++[.lst (((yM S z k).flatMap (ext (z.getD (k+1) 0))).map zo)]) (r:=A.length) h.wf h.k8 L l (ju B) qB);exact⟨_,_,_,(zw (qi i)).trans ((zw (qi E)).trans qC),Ext.one.trans Ext.one,qB⟩
def Oj (h:Dt t K S z)(A:Hx):W0 [zm t] A=.ok (.ref A.length) (A++[.lst ((yM S z (K-1)).map zo)]):=by
 have Z:=h.zs.l;have Q:=h.k1;have T:=h.k8;have w:=h.ks [];have v:=h.zf [.lst (S.map zm),.lst [.tup [.int 1]]];have E:=Wb (m:=zP QV (zi zH zr)) (p:=qT) (ρ:=[some (zm t),rO 0,rO 1,none,none]) (A0:=[.lst (S.map zm),.lst [.tup [.int 1]]]) (n:=2) (k:=1) ((zT (zu (zj rfl) zJ)).trans v) rfl zR (by rw[af,Z];exact Q)
 rw[<- map_drop]at E;have P:(z.drop 1).length=K-1:=by rw[bw,Z]
 have c:∀(B:Hx)(i:Nat),B[3]? =some (.lst ((z.drop 1).map W.int))->i<K-1->((zI (.ref 3) B).map λJ=>J[i]?)=some (iV (z.getD (i+1) 0)):=λB i u d=>by
  rw[kZ u,ay,List.getElem?_drop,add_comm 1 i,ae (by rw[Z];lia),aa,ae (by rw[Z];lia)]
  rfl
 obtain⟨f,B,e,M,H,r,y,Y,rfl,b⟩:=yH (j:=⟨λA i=>(zI (.ref 3) A).map λJ=>J[i]?,K-1⟩) (st:=turn (zM 3) sB) (N:=K-1) (I:=λk L B=>B[0]? =some (.lst (S.map zm))/\B[3]? =some (.lst ((z.drop 1).map W.int))/\∃r y Y,L=[some (zm t),rO 0,rO r,y,Y]/\B[r]? =some (.lst ((yM S z k).map zo)))
  (λi L B d ⟨M,H,r,y,Y,a,b⟩=>by
   subst a;obtain⟨D,g,C,e,x,q⟩:=lB (x4:=Y) h (k:=i) (by lia) M b
   exact⟨_,_,C,c B i H d,(jO rfl).trans e,x.at M,x.at H,g,_,_,rfl,q⟩)
  (λL B ⟨_,H,_⟩=>by show((zI (.ref 3) B).map λJ=>J[K-1]?)=_;rw[kZ H,az (by rw[af,P];exact ao _)]) (K-1) 0 [some (zm t),rO 0,rO 1,none,none] [.lst (S.map zm),.lst [.tup [.int 1]],.lst (z.map W.int),.lst ((z.drop 1).map W.int)] (by lia) ⟨rfl,rfl,1,_,_,rfl,rfl⟩
 refine G0 (k:=r) (A1:=B) (Zr t) (qV ?_) b (Qo (λ_=>JH _) _);dsimp only[VI,mq];have o:(K-1)=((z.drop 1).map W.int).length:=by rw[af,P]
 rw[o]at e;exact(zw (qi ((zT (zu (zj rfl) zJ)).trans w))).trans ((zw (qi (jx (zu (gG (zu zR zJ)) zJ)))).trans ((zw ((jy (Qq E rfl)).trans e)).trans (qk (qN (zj rfl)))))
end
noncomputable def sm (n:Nat)(f:Nat->Int):Int:=((List.range n).map f).sum
def kS (n:Nat)(f:Nat->Int):sm (n+1) f=sm n f+f n:=by unfold sm;rw[bf,aN,sum_append];simp
def jZ {f g:Nat->Int}(h:∀i,i<n->f i=g i):sm n f=sm n g:=by
 unfold sm
 congr 1
 exact bo λi H=>h i (cm.mp H)
def Td (n:Nat):sm n (λ_=>0)=0:=by
 induction n with|zero=>rfl|succ n i=>rw[kS,i];rfl
def lC (n:Nat)(f g:Nat->Int):sm n (λi=>f i+g i)=sm n f+sm n g:=by
 induction n with|zero=>rfl|succ n I=>rw[kS,kS,kS,I];lia
def TY {a:Nat}(b:a<n)(v:Int):sm n (λi=>if i=a then v else 0)=v:=by
 induction n with
 |zero=>lia|succ n I=>
  rw[kS]
  by_cases h:a=n
  ·subst h
   have:sm a (λi=>if i=a then v else 0)=sm a λ_=>0:=jZ λi H=>aj (by lia)
   rw[this,Td,ai rfl];lia
  ·rw[I (by lia),aj (by lia)]
   lia
section
variable {K:Nat}{w x:W}{r:bR}
def C9 (l:ws.length<=100)(a:∀x∈ws,∃ty,jM x A=some ty):ZA [.tup ws,.int K] A=.ok (.bl (decide (ws.length=K)&&ws.all km)) A:=by
 unfold ZA KC;refine qV ?_;dsimp only[Yr,mq];refine qk (qN ?_);refine(Z2 (A1:=A) rfl).trans ?_;have e:=Wi (ws:=ws) (ρ:=[some (.tup ws),iV K]) (i:=0) (A:=A) rfl;have eq:zh yi (mQ qf (zN (zS 0))) (zS 1) [some (.tup ws),iV K] A=.ok (.bl (decide (ws.length=K))) A:=(zB e (zj (i:=1) rfl)).trans ((gz _ _ _).trans (by congr 2;exact decide_eq_decide.mpr ⟨λz=>by lia,λz=>by lia⟩))
 by_cases q:ws.length=K
 ·rw[ax q]at eq ⊢
  refine(Z2 eq).trans ?_;have E:=Yy (cap:=[]) (A:=A) (ρ:=[some (.tup ws),iV K]) (ws:=ws) (me:=zP Jw (zi (zS 0) zr)) (g:=λw=>.bl (km w)) (zj (i:=0) rfl) (by unfold zX;lia) (λw H=>by obtain⟨ty,h⟩:=a w H;exact(zT (ws:=[w]) (A1:=A) rfl).trans (OW h))
  refine(jP E).trans ?_;rw[Bool.true_and];unfold Y9 Zg;rw[Gv];show R.ok (W.bl ((ws.map km).all id)) A=_;rw[all_map]
  rfl
 ·rw[aE q]at eq ⊢
  exact JJ eq
def CC (h:r.length<=8)(A:Hx):ZA [zo r,.int r.length] A=.ok (.bl true) A:=OA h A
variable {a b c e k:Nat}
def lD (l:qm t)(s:jz t)(j:qb t=(K:Int))(i:k<K):∃b,b<t.length/\at2 t 0 b=(k:Int):=by
 obtain⟨a,b,h,f,e⟩:=QB l (v:=k) (by lia)
 have n:=l.n1;have D:at2 t 0 0=at2 t a a:=by rw[(l.dg 0 0 n n).mpr rfl,(l.dg a a h h).mpr rfl]
 have H:=s 0 0 a a n n h h D;have o:((k:Int),(k:Int))∈Zm t a a:=by unfold Zm;exact cx.mpr ⟨b,cm.mpr f,by rw[e]⟩
 obtain⟨c,d,E⟩:=cx.mp (H.mem_iff.mpr o);injection E with g _
 exact⟨c,cm.mp d,g⟩
end
def Xk (n:Nat)(f:Nat->Int)(v:Int):sm n (λi=>v * f i)=v * sm n f:=by
 induction n with|zero=>show(0:Int)=v * 0;rw[Int.mul_zero]|succ n I=>rw[kS,kS,I,Int.mul_add]
def Nz (n:Nat)(f:Nat->Int)(v:Int):sm n (λi=>f i * v)=sm n f * v:=by rw[Int.mul_comm,<- Xk];exact jZ λi _=>Int.mul_comm _ _
def G2 (n m:Nat)(f:Nat->Nat->Int):sm n (λi=>sm m (f i))=sm m λj=>sm n λi=>f i j:=by
 induction n with
 |zero=>show(0:Int)=_;exact(Td m).symm|succ n I=>
  rw[kS,I,<- lC];exact jZ λj _=>(kS n λi=>f i j).symm
section
variable {K m j k:Nat}{w x z:bR}{S:List (bQ)}
def Full (K:Nat)(S:List (bQ))(w:bR):Prop:=∀i j,i<K->j<K->w.getD i 0 * w.getD j 0=sm K λk=>pS S k i j * w.getD k 0
structure Wt (K:Nat)(S:List (bQ))(z w:bR):Prop where
 l:w.length=K
 o:w.getD 0 0=1
 b:∀i,i<K->-(z.getD i 0)<=w.getD i 0/\w.getD i 0<=z.getD i 0
 f:Full K S w
def UE:yD S w i j=true↔(∃t∈S.drop w.length,at2 t i j≠0)∨w.getD i 0 * w.getD j 0=sm w.length λk=>pS S k i j * w.getD k 0:=by
 unfold yD;rw[a3,any_eq_true,aq]
 have:(∃t∈S.drop w.length,(at2 t i j != 0)=true)↔∃t∈S.drop w.length,at2 t i j≠0:=by
  constructor
  ·rintro⟨t,H,h⟩;exact⟨t,H,by simpa using h⟩
  ·rintro⟨t,H,h⟩;exact⟨t,H,by simpa using h⟩
 rw[this];exact Iff.rfl
def OD:yg S w=true↔∀i j,i<w.length->j<w.length->yD S w i j=true:=by
 unfold yg;rw[aY]
 constructor
 ·intro h i j a H
  exact cy.mp (h i (cm.mpr a)) j (cm.mpr H)
 ·intro h i a
  rw[aY];exactλj H=>h i j (cm.mp a) (cm.mp H)
def UB (b:S.length=K)(c:w.length=K):yg S w=true↔Full K S w:=by
 rw[OD];unfold Full;rw[c];refine⟨λh i j a H=>?_,λh i j a H=>UE.mpr (.inr (by rw[c];exact h i j a H))⟩
 rcases UE.mp (h i j a H) with ⟨t,d,_⟩|e
 ·rw[c,List.drop_of_length_le (by lia)]at d
  cases d
 ·rw[c]at e;exact e
def Yw {l:bR}(h:i<m):(l.take m).getD i 0=l.getD i 0:=by rw[aa,List.getElem?_take_of_lt h,<- aa]
theorem Ts {f:Nat->Int}:∀d,(∀k,m<=k->k<m+d->f k=0)->sm (m+d) f=sm m f
 |0,_=>rfl|d+1,h=>by rw[<- Nat.add_assoc,kS,Ts d (λk H a=>h k H (by lia)),h (m+d) (by lia) (by lia),Int.add_zero]
def Bi (c:S.length=K)(d:w.length=K)(f:Full K S w)(g:m<=K):yg S (w.take m)=true:=by
 have l:(w.take m).length=m:=by rw[a6];lia
 refine OD.mpr λi j a H=>UE.mpr ?_;rw[l]at a H ⊢
 by_cases h:∃t∈S.drop m,at2 t i j≠0
 ·exact .inl h
 ·refine .inr ?_
  rw[Yw a,Yw H,f i j (by lia) (by lia)]
  have e:K=m+(K-m):=by lia
  rw[e,Ts (K-m) λk o n=>?_]
  ·exact jZ λk b=>by rw[Yw b]
  ·have:at2 (S.getD k []) i j=0:=Decidable.byContradiction λq=>h ⟨S.getD k [],by
    rw[aa,ae (by lia)]
    exact List.mem_iff_getElem.mpr ⟨k-m,by rw[bw];lia,by rw[List.getElem_drop];congr 1;lia⟩,q⟩
   show at2 _ i j * _=0;rw[this,zero_mul]
theorem TQ {p:Nat->List Int->Bool}(H:Zs K z)(a:∀k,k+1<K->p (k+1) (w.take (k+1+1))=true)(d:Wt K S z w):∀k,k<K->w.take (k+1)∈ZP p z k
 |0,h=>by
  have:w.take 1=[1]:=by
   cases w with|nil=>have:=d.l;simp at this;lia|cons v w=>have:=d.o;rw[show(v::w).getD 0 0=v from rfl]at this;rw[this];rfl
  rw[this];exact cz.mpr rfl
 |k+1,h=>by
  have i:=TQ H a d k (by lia)
  have c:=d.l;have Z:=H.le h;have e:w.take (k+1+1)=w.take (k+1)++[w.getD (k+1) 0]:=by
   rw[take_succ (by lia),aa,ae (by lia)]
   rfl
  refine List.mem_filter.mpr ⟨?_,a k h⟩;rw[e];exact List.mem_flatMap.mpr ⟨_,i,YG.mpr ⟨_,(Xt).mpr (d.b _ h),rfl⟩⟩
def Ag (H:1<=k)(h:w∈yM S z k):yg S w=true:=by
 obtain⟨k,rfl⟩:∃j,k=j+1:=⟨k-1,by lia⟩
 exact(List.mem_filter.mp h).2
def Nw (H:Zs K z)(b:S.length=K)(u:1<=K)(q:K=1->pS S 0 0 0=1):w∈yM S z (K-1)↔Wt K S z w:=by
 constructor
 ·intro h
  obtain⟨t,r,n,o⟩:=Jy H (K-1) (by lia) w h
  have a:w.length=K:=by lia
  refine⟨a,n,λi c=>o i (by lia),?_⟩
  by_cases e:K=1
  ·subst e
   intro i j c g
   have:i=0:=by lia
   subst this
   have:j=0:=by lia
   subst this;rw[n,kS];show(1:Int) * 1=sm 0 _+pS S 0 0 0 * w.getD 0 0;rw[q rfl,n]
   rfl
  ·exact(UB b a).mp (Ag (by lia) h)
 ·intro h
  have:=TQ (p:=λ_=>yg S) H (λk d=>Bi b h.l h.f (by lia)) h (K-1) (by lia)
  rwa[aZ (by have:=h.l;lia)]at this
theorem OM (x y:Int):∀w:bR,yv (w++[x]) (w++[y])=decide (x<y)
 |[]=>by
  show(if x=y then false else decide (x<y))=_
  split
  ·exact(aE (by lia)).symm
  ·rfl
 |c::w=>by
  show(if c=c then yv (w++[x]) (w++[y]) else _)=_;rw[ai rfl];exact OM x y w
theorem OV (x y:Int):∀a b:bR,a.length=b.length->a≠b->yv (a++[x]) (b++[y])=yv a b
 |[],[],_,h=>absurd rfl h|[],_::_,h,_=>by cases h|_::_,[],h,_=>by cases h|c::a,d::b,h,hn=>by
  show(if c=d then yv (a++[x]) (b++[y]) else _)=if c=d then yv a b else _
  by_cases e:c=d
  ·rw[ai e,ai e]
   exact OV x y a b (by injection h) λq=>hn (by rw[e,q])
  ·rw[aj e,aj e]
theorem Uy:∀a b:bR,yv a b=true->yv b a=false
 |[],[],h=>by cases h|[],_::_,_=>rfl|_::_,[],h=>by cases h|c::a,d::b,h=>by
  change (if c=d then yv a b else decide (c<d))=true at h
  show(if d=c then yv b a else decide (d<c))=false
  by_cases e:c=d
  ·subst e
   rw[ai rfl]at h ⊢;exact Uy a b h
  ·rw[aj e,aq]at h
   rw[aj (Ne.symm e),decide_eq_false_iff_not];lia
def Xc {a b:bR}(h:yv b a=true)(e:a=b):False:=by rw[e,Ci]at h;cases h
theorem OU:∀{a b:bQ},a.Pairwise (λx y=>yv y x=true)->b.Pairwise (λx y=>yv y x=true)->(∀x,x∈a↔x∈b)->a=b
 |[],[],_,_,_=>rfl|[],y::b,_,_,h=>absurd ((h y).mpr (aG ..)) bG|x::a,[],_,_,h=>absurd ((h x).mp (aG ..)) bG|x::a,y::b,d,c,h=>by
  obtain⟨A,a2⟩:=List.pairwise_cons.mp d;obtain⟨B,f⟩:=List.pairwise_cons.mp c;have e:x=y:=by
   rcases cw.mp ((h x).mp (aG ..)) with e|e
   ·exact e
   ·rcases cw.mp ((h y).mpr (aG ..)) with E|E
    ·exact E.symm
    ·have g:=Uy _ _ (B x e)
     rw[A y E]at g;cases g
  subst e;rw[OU a2 f λz=>⟨λH=>(cw.mp ((h z).mp (aA _ H))).resolve_left λe=>Xc (A z H) e.symm,λH=>(cw.mp ((h z).mpr (aA _ H))).resolve_left λe=>Xc (B z H) e.symm⟩]
theorem KI {p:Nat->List Int->Bool}(c:Zs K z):∀k,k<K->(ZP p z k).Pairwise λa b=>yv b a=true
 |0,_=>List.pairwise_singleton _ _|k+1,n=>by
  have i:=KI (p:=p) c k (by lia)
  have sh:=Jy (p:=p) c k (by lia)
  refine List.Pairwise.filter _ ?_;rw[List.pairwise_flatMap];refine⟨λw o=>?_,?_⟩
  ·unfold ext dn
   rw[aW,pairwise_map];refine List.pairwise_lt_range.imp λ {a b} h=>?_;show yv (w++[z.getD (k+1) 0-(b:Int)]) (w++[z.getD (k+1) 0-(a:Int)])=true;rw[OM];exact ax (by lia)
  ·refine List.Pairwise.imp_of_mem ?_ i
   intro a b l j H x g y f;obtain⟨v,_,rfl⟩:=YG.mp g;obtain⟨d,_,rfl⟩:=YG.mp f;exact(OV d v b a (by rw[(sh a l).1,(sh b j).1]) λe=>Xc H e.symm).trans H
def Dg {p:Nat->List Int->Bool}(H:Zs K z)(k:Nat)(a:k<K):(ZP p z k).Nodup:=(KI H k a).imp λh e=>Xc h e
theorem Ul  [DecidableEq α]:∀{l k:List α},l.Nodup->k.Nodup->(∀a,a∈l↔a∈k)->l.Perm k
 |[],k,_,_,h=>by
  cases k with|nil=>exact List.Perm.refl _|cons a k=>exact absurd ((h a).mpr (aG ..)) bG
 |a::l,k,H,c,h=>by
  have f:a∈k:=(h a).mp (aG ..);refine List.Perm.trans ?_ (List.perm_cons_erase f).symm;refine List.Perm.cons a (Ul (List.nodup_cons.mp H).2 (c.erase a) λb=>?_);rw[c.mem_erase_iff]
  constructor
  ·intro d
   exact⟨λe=>(List.nodup_cons.mp H).1 (e ▸ d),(h b).mp (aA _ d)⟩
  ·rintro⟨j,i⟩
   rcases cw.mp ((h b).mpr i) with rfl|g
   ·exact absurd rfl j
   ·exact g
end
theorem Xr  [BEq α] [LawfulBEq α] [DecidableEq α] (f:Nat->α)(v:α):∀n:Nat,((((List.range n).map f).count v:Nat):Int)=sm n λc=>if f c=v then 1 else 0
 |0=>rfl|n+1=>by
  rw[bf,aN,List.count_append,kS,<- Xr f v n,aS,map_nil,List.count_singleton]
  by_cases h:f n=v
  ·rw[ai h,ai (aL.mpr h)]
   rfl
  ·rw[aj h,aj (λq=>h (aL.mp q))]
   rfl
section
variable {y z v:bR}{a b c e j k K:Nat}{S:Nat->List (bR)}
def lE (d:qm t)(H:a<t.length)(h:b<t.length)(i j:Nat):shr t a b t.length i j=sm t.length λc=>if (at2 t a c,at2 t b c)=((i:Int),(j:Int)) then 1 else 0:=by rw[Yu d H h t.length (ao _) i j];exact Xr (λc=>(at2 t a c,at2 t b c)) _ _
def YR (g:∀a b,a<t.length->b<t.length->jo t K a b=S (at2 t a b).toNat)(l:qm t)(H:a<t.length)(h:b<t.length)(e:at2 t a b=(k:Int))(f:i<K)(d:j<K):at2 (S k) i j=sm t.length λc=>if (at2 t a c,at2 t b c)=((i:Int),(j:Int)) then 1 else 0:=by
 have:=g a b H h
 rw[e,aB]at this;rw[<- this];unfold jo;rw[K0 f d,lE l H h]
def AX (l:∀a b,a<t.length->b<t.length->jo t K a b=S (at2 t a b).toNat)(r:qm t)(p:qb t=(K:Int))(o:k<K)(g:i<K)(f:j<K):at2 (S k) i j=at2 (S k) j i:=by
 obtain⟨a,b,d,H,e⟩:=QB r (v:=k) (by lia)
 rw[YR l r d H e g f,YR l r H d ((r.sy b a H d).trans e) f g];refine jZ λc _=>?_
 by_cases q:(at2 t a c,at2 t b c)=((i:Int),(j:Int))
 ·rw[ai q,ai (by injection q with n Q;rw[n,Q])]
 ·rw[aj q,aj (λh=>q (by injection h with w u;rw[w,u]))]
def nb (t:bQ)(a i:Nat):Int:=sm t.length λc=>if at2 t a c=(i:Int) then 1 else 0
def OY (f:qm t)(s:jz t)(e:a<t.length)(H:b<t.length)(i:Nat):nb t a i=nb t b i:=by
 have d:at2 t a a=at2 t b b:=by rw[(f.dg a a e e).mpr rfl,(f.dg b b H H).mpr rfl]
 have p:=s a a b b e e H H d;have h:∀q:Nat,nb t q i=((((Zm t q q).count ((i:Int),(i:Int)):Nat)):Int):=λq=>by
  unfold Zm nb;rw[Xr];refine jZ λc _=>?_
  by_cases h:at2 t q c=(i:Int)
  ·rw[ai h,ai (by rw[h])]
  ·rw[aj h,aj (λz=>h (by injection z))]
 rw[h,h,p.count_eq]
def Cp (r:∀a b,a<t.length->b<t.length->jo t K a b=S (at2 t a b).toNat)(v:qm t)(f:i<K)(o:j<K)(d:k<K):nb t 0 k * at2 (S k) i j=nb t 0 i * at2 (S i) k j:=by
 have N:=v.n1;have h:∀{p q:Nat},p<K->q<K->nb t 0 p * at2 (S p) q j=sm t.length λb=>sm t.length λc=>if at2 t 0 b=(p:Int)/\at2 t 0 c=(q:Int)/\at2 t b c=(j:Int) then 1 else 0:=λ {p q} u n=>by
  unfold nb;rw[<- Nz];refine jZ λb H=>?_
  by_cases e:at2 t 0 b=(p:Int)
  ·rw[ai e,Int.one_mul,YR r v N H e n o]
   refine jZ λc _=>?_
   by_cases z:(at2 t 0 c,at2 t b c)=((q:Int),(j:Int))
   ·rw[ai z,ai (by injection z with l Z;exact⟨e,l,Z⟩)]
   ·rw[aj z,aj (λy=>z (by rw[y.2.1,y.2.2]))]
  ·rw[aj e,zero_mul]
   exact((jZ λc _=>by rw[aj (λy=>e y.1)]).trans (Td _)).symm
 rw[h d f,h f d,G2];refine jZ λb H=>jZ λc g=>?_
 by_cases z:at2 t 0 c=(k:Int)/\at2 t 0 b=(i:Int)/\at2 t c b=(j:Int)
 ·rw[ai z,ai ⟨z.2.1,z.1,(v.sy b c H g).trans z.2.2⟩]
 ·rw[aj z,aj (λy=>z ⟨y.2.1,y.1,(v.sy c b g H).trans y.2.2⟩)]
def Nu (f:qm t)(d:qb t=(K:Int))(a:b<t.length)(H:c<t.length)(v:Int):sm K (λj=>if at2 t b c=(j:Int) then v else 0)=v:=by
 have h:=JL f d a H;refine(jZ λj _=>?_).trans (TY h.2 v)
 by_cases q:at2 t b c=(j:Int)
 ·rw[ai q,ai (by rw[q,aB])]
 ·rw[aj q,aj (λe=>q (by rw[<- h.1,e]))]
def Ac (l:∀a b,a<t.length->b<t.length->jo t K a b=S (at2 t a b).toNat)(p:qm t)(s:jz t)(n:qb t=(K:Int))(o:k<K)(f:i<K):sm K (λj=>at2 (S k) i j)=nb t 0 i:=by
 obtain⟨a,b,H,h,e⟩:=QB p (v:=k) (by lia)
 rw[OY p s p.n1 H i,jZ λj d=>YR l p H h e f d,G2];unfold nb;refine jZ λc g=>?_;rw[<- Nu p n h g (if at2 t a c=(i:Int) then 1 else 0)];refine jZ λj _=>?_
 by_cases q:at2 t a c=(i:Int)
 ·rw[ai q]
  by_cases r:at2 t b c=(j:Int)
  ·rw[ai r,ai (by rw[q,r])]
  ·rw[aj r,aj (λz=>r (by injection z))]
 ·rw[aj (λz=>q (by injection z))]
  by_cases r:at2 t b c=(j:Int)
  ·rw[ai r,aj q]
  ·rw[aj r]
def lF (a:qm t)(H:qb t=(K:Int)):sm K (λk=>nb t 0 k)=(t.length:Int):=by
 unfold nb;rw[G2,jZ λc h=>Nu a H a.n1 h 1];generalize t.length=n
 induction n with|zero=>rfl|succ n i=>rw[kS,i];lia
def Ah (H:qm t):nb t 0 0=1:=by
 unfold nb;refine(jZ λc h=>?_).trans (TY H.n1 1)
 by_cases q:c=0
 ·subst q
  exact(ai ((H.dg 0 0 H.n1 H.n1).mpr rfl)).trans (ai rfl).symm
 ·exact(aj (λe=>q ((H.dg 0 c H.n1 h).mp e).symm)).trans (aj q).symm
def P1 (b:qm t)(H:a<t.length):t.getD a []=(List.range t.length).map λc=>at2 t a c:=by
 have h:=b.sq _ (kz H);refine a9 (by rw[af,aF,h]) λc d e=>?_
 rw[getElem_map,getElem_range];unfold at2;rw[aa (l:=t.getD a []),ae d]
 rfl
def JN (H:qm t)(h:k<K):(qu t K).getD k 0=nb t 0 k:=by unfold qu;rw[aa,ay,aQ h];show(((t.getD 0 []).count (k:Int):Nat):Int)=_;rw[P1 H H.n1];exact Xr (λc=>at2 t 0 c) (k:Int) t.length
def U1:(qu t K).length=K:=by unfold qu;rw[af,aF]
end
section
variable {a b j k K:Nat}
def SL (t:bQ)(K:Nat):List (bQ):=(List.range K).map λ(k:Nat)=>jo t K (Qa t (k:Int)/t.length) (Qa t (k:Int)%t.length)
def Nv (g:qm t)(f:qb t=(K:Int))(d:k<K):Qa t (k:Int)/t.length<t.length/\Qa t (k:Int)%t.length<t.length/\at2 t (Qa t (k:Int)/t.length) (Qa t (k:Int)%t.length)=(k:Int):=by
 have n:=g.n1;obtain⟨a,b,c,H,e⟩:=QB g (v:=k) (by lia)
 have h:a * t.length+b<t.length * t.length:=by
  have i:a * t.length+t.length<=t.length * t.length:=by
   have:(a+1) * t.length<=t.length * t.length:=Nat.mul_le_mul_right _ c
   rwa[Nat.add_mul,Nat.one_mul]at this
  lia
 have l:(a * t.length+b)/t.length=a:=by rw[mul_comm,Nat.mul_add_div n,Nat.div_eq_of_lt H,Nat.add_zero]
 have j:(a * t.length+b)%t.length=b:=by rw[mul_comm,Nat.mul_add_mod,Nat.mod_eq_of_lt H]
 unfold Qa;cases hf:(List.range (t.length * t.length)).find? λm=>decide (at2 t (m/t.length) (m%t.length)=(k:Int)) with
 |none=>
  have:=List.find?_eq_none.mp hf (a * t.length+b) (cm.mpr h)
  rw[l,j,e]at this;simp at this
 |some m=>
  have i:=List.find?_some hf;have o:=cm.mp (List.mem_of_find?_eq_some hf);exact⟨Nat.div_lt_of_lt_mul o,Nat.mod_lt _ n,of_decide_eq_true i⟩
def Tp:(SL t K).length=K:=by unfold SL;rw[af,aF]
def lG (h:k<K):(SL t K).getD k []=jo t K (Qa t (k:Int)/t.length) (Qa t (k:Int)%t.length):=by
 unfold SL;rw[aa,ay,aQ h]
 rfl
def Wk (f:qm t)(s:jz t)(c:qb t=(K:Int))(a b:Nat)(H:a<t.length)(h:b<t.length):jo t K a b=(λk=>(SL t K).getD k []) (at2 t a b).toNat:=by have n:=JL f c H h;obtain⟨e,d,r⟩:=Nv f c n.2;show _=(SL t K).getD _ [];rw[lG n.2];exact Ot f s H h e d (by rw[r];exact n.1.symm)
def Wm (f:qm t)(s:jz t)(H:qb t=(K:Int)):Zs K (qu t K):=by
 have kb:=kH f;have n:=f.n8;refine⟨U1,λv a=>?_,?_,?_⟩
 ·obtain⟨k,h,rfl⟩:=cx.mp a
  have h:=cm.mp h;obtain⟨b,d,e⟩:=lD f s H h;have j:(k:Int)∈t.getD 0 []:=by rw[P1 f f.n1];exact cx.mpr ⟨b,cm.mpr d,e⟩
  have:=List.count_pos_iff.mpr j
  lia
 ·have:(qu t K).sum=sm K λk=>nb t 0 k:=by
   unfold sm
   congr 1
   refine a9 (by rw[U1,af,aF]) λi g l=>?_
   have c:i<K:=by rw[U1]at g;exact g
   rw[getElem_map,getElem_range,<- JN f c,aa,ae g]
   rfl
  rw[this,lF f H];lia
 ·rw[JN f (by lia),Ah f]
def lH (y:qm t)(s:jz t)(u:qb t=(K:Int)):Wf K (SL t K):=by
 have N:=y.n8;have g:∀m∈SL t K,∃a b,a<t.length/\b<t.length/\m=jo t K a b:=λm x=>by obtain⟨k,n,rfl⟩:=cx.mp x;obtain⟨f,r,_⟩:=Nv y u (cm.mp n);exact⟨_,_,f,r,rfl⟩
 refine⟨Tp,λm x=>?_,λm x=>?_,λm x i j=>?_⟩
 ·obtain⟨a,b,_,_,rfl⟩:=g m x
  exact GC
 ·obtain⟨a,b,_,_,rfl⟩:=g m x
  intro q d;unfold jo j5 at d;obtain⟨i,_,rfl⟩:=cx.mp d;rw[af,aF]
 ·obtain⟨a,b,p,o,rfl⟩:=g m x
  by_cases h:i<K/\j<K
  ·unfold jo
   rw[K0 h.1 h.2,Yu y p o _ (ao _)]
   have:=List.count_le_length (a:=((i:Int),(j:Int))) (l:=(List.range t.length).map λc=>(at2 t a c,at2 t b c))
   rw[af,aF]at this;lia
  ·have:at2 (jo t K a b) i j=0:=by
    unfold at2
    by_cases z:i<K
    ·have w:¬j<K:=λq=>h ⟨z,q⟩
     have v:((jo t K a b).getD i []).length=K:=by
      have H:(jo t K a b).getD i []∈jo t K a b:=kz (by unfold jo;rw[GC];exact z)
      unfold jo j5 at H;obtain⟨q,_,e⟩:=cx.mp H;unfold jo j5;rw[<- e,af,aF]
     rw[aa (l:=(jo t K a b).getD i []),az (by lia)]
     rfl
    ·rw[aa (l:=jo t K a b),az (by unfold jo;rw[GC];lia)]
     rfl
   lia
def lI (H:qm t)(s:jz t)(h:qb t=(K:Int)):Dt t K (SL t K) (qu t K):=by
 have kb:=kH H;have l:=Xf H;have n:=H.n8;refine⟨H,h,s,λA=>?_,λA=>lb H h A,lH H s h,Wm H s h,by lia,by lia⟩
 rw[EV (S:=λk=>(SL t K).getD k []) H h (Wk H s h) A,Ym (SL t K) [] zm,Tp]
def lJ (d:qm t)(s:jz t)(c:qb t=(K:Int)):Full K (SL t K) (qu t K):=λi j a H=>by
 have b:=Wk d s c;rw[JN d a,JN d H];have e:(sm K λk=>pS (SL t K) k i j * (qu t K).getD k 0)=sm K λk=>nb t 0 i * at2 ((SL t K).getD i []) k j:=jZ λk h=>by rw[JN d h,Int.mul_comm];exact Cp (S:=λk=>(SL t K).getD k []) b d a H h
 rw[e,Xk,jZ λk h=>AX (S:=λk=>(SL t K).getD k []) b d c a h H,Ac (S:=λk=>(SL t K).getD k []) b d s c a H]
variable {T:bQ}{c e m v:Nat}{p o:bW}{q l x:bR}
def M0:(jn p).getD 0 0=0:=rfl
def MC (H:p.Perm (List.range m))(b:k<=m):0<=(jn p).getD k 0/\(jn p).getD k 0<=(m:Int):=by
 have a:p.length=m:=by rw[H.length_eq,aF]
 by_cases h:k=0
 ·subst h
  rw[M0];lia
 ·rw[Q2 (by lia)]
  have:=cm.mp (H.mem_iff.mp (aK (l:=p) (n:=k-1) (by lia)))
  lia
def Ny (H:p.Perm (List.range m))(a:v<=m):∃k,k<=m/\(jn p).getD k 0=(v:Int):=by
 have l:p.length=m:=by rw[H.length_eq,aF]
 by_cases h:v=0
 ·exact⟨0,by lia,by rw[M0,h];rfl⟩
 ·obtain⟨i,b,e⟩:=a7 (H.mem_iff.mpr (cm.mpr (show v-1<m by lia)))
  refine⟨i+1,by lia,?_⟩
  rw[Q2 (by lia)]
  have:p[i+1-1]'(by lia)=v-1:=e
  rw[this];lia
structure Tn (T t:bQ)(K:Nat)(p o:bW):Prop where
 hT:qm T
 ht:qm t
 kT:qb T=(K:Int)
 kt:qb t=(K:Int)
 len:t.length=T.length
 pp:p.Perm (List.range (K-1))
 oo:o.Perm (List.range T.length)
 at_:∀a b,a<T.length->b<T.length->at2 t a b=(jn p).getD (at2 T (o.getD a 0) (o.getD b 0)).toNat 0
def J5 (h:o.Perm (List.range n))(b:a<n):o.getD a 0<n:=by
 have H:o.length=n:=by rw[h.length_eq,aF]
 rw[aa,ae (by lia)]
 exact cm.mp (h.mem_iff.mp (aK _))
def XH (h:o.Perm (List.range n))(d:a<n):∃b,b<n/\o.getD b 0=a:=by
 have H:o.length=n:=by rw[h.length_eq,aF]
 obtain⟨i,c,e⟩:=a7 (h.mem_iff.mpr (cm.mpr d));exact⟨i,by lia,by rw[aa,ae c];exact e⟩
def lK (hT:qm T)(f:qb T=(K:Int))(g:p.Perm (List.range (qb T-1).toNat))(H:o.Perm (List.range T.length)):Tn T (wD T p o) K p o:=by
 obtain⟨t,l⟩:=P2 hT g H;have kb:=kH hT;have h:p.Perm (List.range (K-1)):=by rwa[f,show((K:Int)-1).toNat=K-1 by lia]at g
 have at_:∀a b,a<T.length->b<T.length->at2 (wD T p o) a b=(jn p).getD (at2 T (o.getD a 0) (o.getD b 0)).toNat 0:=λa b d c=>OC H d c;refine⟨hT,t,f,?_,l,h,H,at_⟩
 apply Int.le_antisymm
 ·obtain⟨a,b,d,c,e⟩:=U7 t.sq (GR t)
  rw[l]at d c;rw[at_ a b d c]at e
  have:=(MC h (k:=(at2 T (o.getD a 0) (o.getD b 0)).toNat) (by have:=(JL hT f (J5 H d) (J5 H c)).2;lia)).2
  lia
 ·obtain⟨k,n,e⟩:=Ny h (v:=K-1) (ao _)
  obtain⟨x,y,j,i,E⟩:=QB hT (v:=k) (by lia)
  obtain⟨a,d,rfl⟩:=XH H j;obtain⟨b,c,rfl⟩:=XH H i
  have:=K6 t (a:=a) (b:=b) (by lia) (by lia)
  rw[at_ a b d c,E,aB,e]at this;lia
def UJ:∀{l k:bR},l.Perm k->l.sum=k.sum:=λh=>by
 induction h with|nil=>rfl|cons x _ a=>rw[sum_cons,sum_cons,a]|swap x y l=>rw[sum_cons,sum_cons,sum_cons,sum_cons];lia|trans _ _ I i=>exact I.trans i
def Li (H:o.Perm (List.range n))(g:Nat->Int):sm n (λc=>g (o.getD c 0))=sm n g:=by
 have h:o.length=n:=by rw[H.length_eq,aF]
 unfold sm
 have:=Ym o 0 g
 rw[h]at this;rw[<- this];exact UJ (H.map g)
def pi (p:bW)(k:Nat):Nat:=((jn p).getD k 0).toNat
def ZH (h:Tn T t K p o)(H:k<K):((pi p k:Nat):Int)=(jn p).getD k 0/\pi p k<K:=by
 have kb:=kH h.hT;have a:=h.kT
 have:=MC h.pp (k:=k) (by lia)
 unfold pi;lia
def Xj (h:Tn T t K p o)(H:k<K)(a:j<K)(e:pi p k=pi p j):k=j:=by
 have c:=(ZH h H).1;have b:=(ZH h a).1;have P:p.length=K-1:=by rw[h.pp.length_eq,aF]
 exact O9 ((h.pp.nodup_iff).mpr nodup_range) (by lia) (by lia) (by rw[<- c,<- b,e])
def Q7 (h:Tn T t K p o)(a:m<K):∃k,k<K/\pi p k=m:=by
 obtain⟨k,H,e⟩:=Ny h.pp (v:=m) (by lia)
 exact⟨k,by lia,by unfold pi;rw[e,aB]⟩
def MR (h:Tn T t K p o)(g:Nat->Int):sm K (λk=>g (pi p k))=sm K g:=by
 have d:((List.range K).map (pi p)).Perm (List.range K):=by
  refine Ul ?_ nodup_range λm=>?_
  ·rw[List.Nodup,pairwise_map]
   exact List.Pairwise.imp_of_mem (λ {a b} i f c e=>c (Xj h (cm.mp i) (cm.mp f) e)) nodup_range
  ·rw[mem_map,List.mem_range]
   exact⟨λ⟨k,H,e⟩=>e ▸ (ZH h (cm.mp H)).2,λj=>let ⟨k,H,e⟩:=Q7 h j;⟨k,cm.mpr H,e⟩⟩
 unfold sm
 have:=UJ (d.map g)
 rw[aW]at this;exact this
def lL (h:Tn T t K p o)(c:a<T.length)(H:b<T.length):at2 t a b=((pi p (at2 T (o.getD a 0) (o.getD b 0)).toNat:Nat):Int):=by rw[h.at_ a b c H,(ZH h (JL h.hT h.kT (J5 h.oo c) (J5 h.oo H)).2).1]
def XG (h:Tn T t K p o)(c:a<T.length)(H:b<T.length)(d:k<K):at2 t a b=((pi p k:Nat):Int)↔at2 T (o.getD a 0) (o.getD b 0)=(k:Int):=by
 have n:=JL h.hT h.kT (J5 h.oo c) (J5 h.oo H);rw[lL h c H]
 constructor
 ·intro e
  have:=Xj h n.2 d (by lia)
  lia
 ·intro e
  rw[e,aB]
def lM (h:Tn T t K p o)(C:jz T)(E:jz t)(D:k<K)(d:i<K)(H:j<K):pS (SL t K) (pi p k) (pi p i) (pi p j)=pS (SL T K) k i j:=by
 have I:=h.kT;obtain⟨x,y,w,u,e⟩:=QB h.hT (v:=k) (by lia)
 obtain⟨a,n,rfl⟩:=XH h.oo w;obtain⟨b,g,rfl⟩:=XH h.oo u;have l:a<t.length:=by rw[h.len];exact n
 have f:b<t.length:=by rw[h.len];exact g
 refine(YR (S:=λk=>(SL t K).getD k []) (Wk h.ht E h.kt) h.ht l f ((XG h n g D).mpr e) (ZH h d).2 (ZH h H).2).trans (Eq.trans ?_ (YR (S:=λk=>(SL T K).getD k []) (Wk h.hT C h.kT) h.hT w u e d H).symm);rw[h.len];rw[<- Li h.oo λc=>if (at2 T (o.getD a 0) c,at2 T (o.getD b 0) c)=((i:Int),(j:Int)) then 1 else 0];refine jZ λc A=>?_;have r:=XG h n A d;have Q:=XG h g A H
 by_cases z:(at2 T (o.getD a 0) (o.getD c 0),at2 T (o.getD b 0) (o.getD c 0))=((i:Int),(j:Int))
 ·injection z with q Z
  rw[ai (by rw[r.mpr q,Q.mpr Z]),ai (by rw[q,Z])]
 ·rw[aj (λy=>z (by injection y with B Y;rw[r.mp B,Q.mp Y])),aj z]
def lN (h:Tn T t K p o)(S:jz T)(H:k<K):nb t 0 (pi p k)=nb T 0 k:=by
 have n:=h.hT.n1;rw[OY h.hT S n (J5 h.oo n) k];unfold nb;rw[h.len,<- Li h.oo λc=>if at2 T (o.getD 0 0) c=(k:Int) then 1 else 0];refine jZ λc a=>?_;have q:=XG h n a H
 by_cases z:at2 T (o.getD 0 0) (o.getD c 0)=(k:Int)
 ·rw[ai z,ai (q.mpr z)]
 ·rw[aj z,aj λy=>z (q.mp y)]
def Xg (h:Tn T t K p o)(S:jz T)(H:k<K):(qu t K).getD (pi p k) 0=(qu T K).getD k 0:=by rw[JN h.ht (ZH h H).2,JN h.hT H,lN h S H]
variable {w z:bR}
abbrev Rw (t:bQ)(K:Nat):bQ:=yM (SL t K) (qu t K) (K-1)
def Lx (a:qm t)(s:jz t)(H:qb t=(K:Int))(b:K=1):pS (SL t K) 0 0 0=1:=by
 subst b
 have:=lJ a s H 0 0 (by lia) (by lia)
 rw[(Wm a s H).h,kS,(Wm a s H).h]at this;have e:sm 0 (λk=>pS (SL t 1) k 0 0 * (qu t 1).getD k 0)=0:=rfl;rw[e]at this;lia
def JQ (H:qm t)(s:jz t)(h:qb t=(K:Int)):w∈Rw t K↔Wt K (SL t K) (qu t K) w:=by have kb:=kH H;exact Nw (Wm H s h) Tp (by lia) (Lx H s h)
def M3 (H:qm t)(s:jz t)(h:qb t=(K:Int)):(Rw t K).Nodup:=by have kb:=kH H;exact Dg (Wm H s h) (K-1) (by lia)
def ps (p:bW)(K:Nat)(w:bR):bR:=(List.range K).map λk=>w.getD (pi p k) 0
def gO (h:k<K):(ps p K w).getD k 0=w.getD (pi p k) 0:=by
 unfold ps;rw[aa,ay,aQ h]
 rfl
def NI:(ps p K w).length=K:=by unfold ps;rw[af,aF]
def Sx (c:w.length=K)(H:x.length=K)(h:∀k,k<K->w.getD k 0=x.getD k 0):w=x:=by
 refine a9 (by lia) λi b a=>?_
 have:=h i (by lia)
 rw[aa,ae b,aa,ae a]at this;exact this
def LF (h:Tn T t K p o):pi p 0=0:=rfl
def M4 (h:Tn T t K p o)(S:jz T)(n:jz t)(q:w.length=K):Wt K (SL t K) (qu t K) w↔Wt K (SL T K) (qu T K) (ps p K w):=by
 have kb:=kH h.hT;have r:=h.kT;have l:Full K (SL t K) w↔Full K (SL T K) (ps p K w):=by
  have y:∀i j,i<K->j<K->((w.getD (pi p i) 0 * w.getD (pi p j) 0=sm K λk=>pS (SL t K) k (pi p i) (pi p j) * w.getD k 0)↔(ps p K w).getD i 0 * (ps p K w).getD j 0=sm K λk=>pS (SL T K) k i j * (ps p K w).getD k 0):=λi j a c=>by rw[gO a,gO c,<- MR h λk=>pS (SL t K) k (pi p i) (pi p j) * w.getD k 0];rw[show(sm K λk=>pS (SL t K) (pi p k) (pi p i) (pi p j) * w.getD (pi p k) 0)=sm K λk=>pS (SL T K) k i j * (ps p K w).getD k 0 from jZ λk e=>by rw[lM h S n e a c,gO e]]
  constructor
  ·intro g i j a c
   exact(y i j a c).mp (g _ _ (ZH h a).2 (ZH h c).2)
  ·intro g i j a c
   obtain⟨I,H,rfl⟩:=Q7 h a;obtain⟨J,d,rfl⟩:=Q7 h c;exact(y I J H d).mpr (g I J H d)
 constructor
 ·intro g
  refine⟨NI,by rw[gO (by lia),LF h];exact g.o,λi a=>?_,l.mp g.f⟩
  rw[gO a,<- Xg h S a];exact g.b _ (ZH h a).2
 ·intro g
  refine⟨q,?_,λi a=>?_,l.mpr g.f⟩
  ·have:=g.o
   rwa[gO (by lia),LF h]at this
  ·obtain⟨I,H,rfl⟩:=Q7 h a
   have:=g.b I H
   rwa[gO H,<- Xg h S H]at this
def lO (h:Tn T t K p o)(d:w.length=K):∃x:bR,x.length=K/\ps p K x=w:=by
 have C:∀m:Nat,∃k:Nat,m<K->k<K/\pi p k=m:=λm=>by
  by_cases c:m<K
  ·obtain⟨k,f,e⟩:=Q7 h c
   exact⟨k,λ_=>⟨f,e⟩⟩
  ·exact⟨0,λz=>absurd z c⟩
 obtain⟨q,b⟩:=Classical.axiomOfChoice C;refine⟨(List.range K).map λm=>w.getD (q m) 0,by rw[af,aF],Sx NI d λk H=>?_⟩
 have P:=(ZH h H).2;rw[gO H,aa (l:=List.map _ _),ay,aQ P];show w.getD (q (pi p k)) 0=_;obtain⟨a,Q⟩:=b (pi p k) P;rw[Xj h a H Q]
def U2 (h:Tn T t K p o)(S:jz T)(n:jz t):((Rw t K).map (ps p K)).Perm (Rw T K):=by
 refine Ul ?_ (M3 h.hT S h.kT) λw=>?_
 ·rw[List.Nodup,pairwise_map]
  refine List.Pairwise.imp_of_mem (λ {a b} j i c e=>c ?_) (M3 h.ht n h.kt);have f:=((JQ h.ht n h.kt).mp j).l;have L:=((JQ h.ht n h.kt).mp i).l;refine Sx f L λm q=>?_;obtain⟨k,d,rfl⟩:=Q7 h q;rw[<- gO d,<- gO d,e]
 ·rw[JQ h.hT S h.kT,mem_map]
  constructor
  ·rintro⟨x,H,rfl⟩
   have g:=(JQ h.ht n h.kt).mp H;exact(M4 h S n g.l).mp g
  ·intro g
   obtain⟨x,H,rfl⟩:=lO h g.l;exact⟨x,(JQ h.ht n h.kt).mpr ((M4 h S n H).mpr g),rfl⟩
def Qw (K:Nat)(z w:bR):Int:=sm K λk=>w.getD k 0 * w.getD k 0 * (840/z.getD k 0)
def jL (n K:Nat)(z w:bR):Int:=(n:Int) * 840/Qw K z w
def Mm (h:Tn T t K p o)(S:jz T):jL t.length K (qu t K) w=jL T.length K (qu T K) (ps p K w):=by
 unfold jL;rw[h.len]
 congr 1
 unfold Qw;rw[<- MR h];exact jZ λk H=>by rw[gO H,Xg h S H]
def su (l:bQ)(f:List Int->Int):Int:=(l.map f).sum
def Mx (h:Tn T t K p o)(S:jz T)(a:jz t)(f:List Int->Int):su (Rw t K) (λw=>f (ps p K w))=su (Rw T K) f:=by
 unfold su
 have:=UJ ((U2 h S a).map f)
 rwa[aW]at this
def lP (t:bQ)(K:Nat):Bool:=(List.range K).all λk=>(List.range K).all λj=>decide (su (Rw t K) (λw=>jL t.length K (qu t K) w * (w.getD k 0 * w.getD j 0))=if k=j then(t.length:Int) * (qu t K).getD k 0 else 0)
def Vt (t:bQ)(K:Nat):Bool:=if (Rw t K).length=K then decide (su (Rw t K) (jL t.length K (qu t K))=(t.length:Int))&&lP t K else decide (su (Rw t K) (jL t.length K (qu t K))<(t.length:Int))
structure Or (t:bQ)(K:Nat):Prop where
 Kr:su (Rw t K) (jL t.length K (qu t K))=(t.length:Int)
 or_:∀k j,k<K->j<K->su (Rw t K) (λw=>jL t.length K (qu t K) w * (w.getD k 0 * w.getD j 0))=if k=j then(t.length:Int) * (qu t K).getD k 0 else 0
def lQ (H:Vt T K=true)(h:Tn T t K p o)(S:jz T)(d:jz t):((Rw t K).length=K/\Or t K)∨((Rw t K).length≠K/\su (Rw t K) (jL t.length K (qu t K))<(t.length:Int)):=by
 have l:(Rw t K).length=(Rw T K).length:=by rw[<- (U2 h S d).length_eq,af]
 have f:su (Rw t K) (jL t.length K (qu t K))=su (Rw T K) (jL T.length K (qu T K)):=by
  rw[<- Mx h S d]
  congr 1
  exact funext λw=>Mm h S
 unfold Vt at H
 split at H
 ·rename_i e
  rw[ak,aq]at H;refine .inl ⟨l.trans e,by rw[f,H.1,h.len],λm M i b=>?_⟩
  obtain⟨k,a,rfl⟩:=Q7 h i;obtain⟨j,c,rfl⟩:=Q7 h b;have g:=of_decide_eq_true (cy.mp (cy.mp H.2 k (cm.mpr a)) j (cm.mpr c));rw[<- Mx h S d]at g;rw[Xg h S a,h.len];refine Eq.trans ?_ (g.trans ?_)
  ·congr 1
   exact funext λw=>by rw[<- h.len,Mm h S,gO a,gO c,h.len]
  ·by_cases q:k=j
   ·subst q
    rw[ai rfl,ai rfl]
   ·rw[aj q,aj λz=>q (Xj h a c z)]
 ·rename_i e
  rw[aq]at H;exact .inr ⟨by rw[l];exact e,by rw[f,h.len];exact H⟩
end
section
variable {w z:bR}{b k K:Nat}{S:List (bQ)}
def getD_mem (h:k<w.length:=by lia):w.getD k 0∈w:=by rw[aa,ae h];exact aK _
def mem_getD {v:Int}(h:v∈w):∃k,k<w.length/\w.getD k 0=v:=by obtain⟨k,H,e⟩:=a7 h;exact⟨k,H,by rw[aa,ae H];exact e⟩
def Wt.sm (h:Wt K S z w)(a:Zs K z):∀v∈w,-9<v/\v<9:=λv c=>by
 obtain⟨k,d,rfl⟩:=mem_getD c;have H:k<K:=by rw[<- h.l];exact d
 have:=h.b k H
 have:=a.le H
 lia
def NY (d:Dt t K S z)(A:Hx):VF [zm t] A=.ok (.bl (decide ((yM S z (K-1)).length=K))) (A++[.lst ((yM S z (K-1)).map zo)]):=by
 refine NA ?_;dsimp only[W3];refine(zw (wW ((zT (zu (zj rfl) zJ)).trans (kF d.tab d.kd d.sd A)))).trans ?_;have E:mQ qf (zN (zP W0 (zi zH zr))) [some (zm t)] A=.ok (.int ((yM S z (K-1)).length:Int)) (A++[.lst ((yM S z (K-1)).map zo)]):=by
  refine(jP (yc ((zT (zu (zj rfl) zJ)).trans (Oj d A)) (by unfold zI;dsimp only;rw[qB]))).trans ?_
  unfold qf;rw[af]
 refine Qr (qk (qN ((zB E ((zT (zu (zj rfl) zJ)).trans (KZ d.tab _))).trans ?_)));rw[d.kd,gz]
 congr 2
 exact decide_eq_decide.mpr ⟨λe=>by lia,λe=>by lia⟩
end
def TC (l:A.length<=B.length)(h:∀q,q<A.length->B[q]? =A[q]?):Ext A B:=⟨B.drop A.length,by
 apply ext_getElem?
 intro q
 by_cases H:q<A.length
 ·rw[ah H]
  exact h q H
 ·rw[ar (by lia),List.getElem?_drop]
  congr 1
  lia⟩
def Oy {l:bW}{x y:Nat}(h:x<l.length):(l++[y]).getD x 0=l.getD x 0:=by rw[aa,ah h,<- aa]
def Ox {l:bW}{y:Nat}:(l++[y]).getD l.length 0=y:=by
 rw[aa,ar (ao _),sub_self]
 rfl
def Sh (B:Hx)(l r K:Nat)(M:bQ):Prop:=l<=r/\∃I:bW,B[r]? =some (.lst (I.map W.ref))/\I.length=K/\∀i,i<K->l<=I.getD i 0/\B[I.getD i 0]? =some (.lst ((M.getD i []).map W.int))
def Sh.mono {C:Hx}{L l r K:Nat}{M:bQ}(h:Sh B L r K M)(b:l<=L)(g:∀q o,l<=q->B[q]? =some o->C[q]? =some o):Sh C l r K M:=by obtain⟨e,I,d,c,a⟩:=h;exact⟨by lia,I,g _ _ (by lia) d,c,λi H=>⟨by have:=(a i H).1;lia,g _ _ (by have:=(a i H).1;lia) (a i H).2⟩⟩
def Ar {a b:Ev}{e:Hx}{y:W}(c:a ρ A=.ok (.ref n) A1)(d:A1[n]? =some (.lst ws))(H:b ρ A1=.ok y e):j4 g a b ρ A=g (.ref n) y e:=by
 unfold j4;have h:Jm (.ref n) A1=true:=by unfold Jm;dsimp only;rw[d]
 rw[c,zK,ai h,H,zK]
section
variable {a b j k K:Nat}
abbrev fs (t:bQ)(a b:Nat)(e d c X x:Option W):En:=[some (zm t),iO a,iO b,e,d,c,X,x]
def WK (t:bQ)(a b i j:Nat):Int:=shr t a b t.length i j
abbrev cE:Ev:=j4 YJ (jW (qy 1 [0,1,2,5,7] (j8 (mQ qf (zN zH))) (zM 0) qH (qe (wF (zh yi (zh zD (zh zD zG zQ) zH) qw) (zh yi (zh zD (zh zD zG qv) zH) jN))))) qH
theorem N4 (p:Nat->Bool):∀(l:bW),(l.map λc=>W.bl (p c)).countP (λw=>J0 w (.bl true))=l.countP p
 |[]=>rfl|x::l=>by
  rw[aS,bI,bI,N4 p l]
  congr 2
  cases p x<;>rfl
def lR (h:qm t)(f:a<t.length)(e:b<t.length){y4 y6:Option W}{x3:Option W}:∃l,cE (fs t a b x3 y4 (iO i) y6 (iO j)) A=.ok (.int (WK t a b i j)) (A++[.lst l]):=by
 have o:=h.n8;generalize H:(fs t a b x3 y4 (iO i) y6 (iO j))=ρ;have E:=w9 (cap:=[0,1,2,5,7]) (mi:=j8 (mQ qf (zN zH))) (ρ:=ρ) (A:=A) (N:=t.length) (item:=λc=>.int (0+(c:Int))) (g:=λc=>.bl (decide (at2 t a c=(i:Int))&&decide (at2 t b c=(j:Int))))
  (me:=wF (zh yi (zh zD (zh zD zG zQ) zH) qw) (zh yi (zh zD (zh zD zG qv) zH) jN))
  (yI (len_tab (by rw[<- H];rfl)) (ZT)) (by rw[aB];rfl) (by unfold zX;lia) (λc d=>by rw[aB];exact ym d) (by rw[aB];exact yj)
  (λc d=>by rw[<- H,Int.zero_add];exact Wo ((zB (Vx h (zj rfl) (zj rfl) (zj rfl) f d) (zj rfl)).trans (gz _ _ _)) ((zB (Vx h (zj rfl) (zj rfl) (zj rfl) e d) (zj rfl)).trans (gz _ _ _)))
 refine⟨(List.range t.length).map λc=>W.bl (decide (at2 t a c=(i:Int))&&decide (at2 t b c=(j:Int))),(Ar (yZ E) qB zR).trans ?_⟩;unfold YJ;dsimp only;rw[qB];dsimp only;rw[ai]
 ·congr 2
  rw[G9,N4,zero_add];unfold WK;rw[Yu h f e _ (ao _)]
  congr 1
  rw[List.count,List.countP_map];refine List.countP_congr λc _=>?_;simp only[Function.comp,ak,aq,aL,Prod.mk.injEq]
 ·rw[ak,aY]
  refine⟨rfl,λw n=>?_⟩;obtain⟨c,_,rfl⟩:=cx.mp n
  rfl
def lS (h:qm t)(z:qb t=(K:Int))(v:a<t.length)(u:b<t.length)(A:Hx):∃B,V4 [zm t,.int (a:Int),.int (b:Int)] A=.ok (.ref A.length) B/\Ext A B/\Sh B A.length A.length K (jo t K a b):=by
 have kb:=kH h;have L:=Xf h;have n8:=h.n8;have kn:jv (K:Int)=true:=ZT (by lia)
 obtain⟨o,B,e,M,U,T,Y,rfl,S,g2,Z,n⟩:=yH (j:=jQ 0 K) (st:=turn (zM 5) (zy (qd 6 (qA zr)) (zy (jD (j8 qv) (zM 7) (zy (yx (j4 yk qL cE)) zV)) (zy (yx (j4 yk qw qL)) zV)))) (N:=K)
  (I:=λi P B=>∃(M:bW) (U T Y:Option W),P=(fs t a b (iO K) (rO A.length) U T Y)/\B[A.length]? =some (.lst (M.map W.ref))/\M.length=i/\(∀x,x<i->A.length<M.getD x 0/\B[M.getD x 0]? =some (.lst ((List.range K).map λj=>W.int (WK t a b x j))))/\∀q,q<A.length->B[q]? =A[q]?)
  (λi P D f ⟨M,U,T,Y,H,S,g2,Z,n⟩=>by
   subst H;have d:=j0 S;refine⟨.int (0+(i:Int)),?_⟩;rw[Int.zero_add];obtain⟨ρ1,B,J,y,rfl,X,Q,k3⟩:=yH (j:=jQ 0 K) (st:=turn (zM 7) (zy (yx (j4 yk qL cE)) zV)) (N:=K)
    (I:=λj P B=>∃Y,P=(fs t a b (iO K) (rO A.length) (iO i) (rO D.length) Y)/\B[D.length]? =some (.lst ((List.range j).map λj=>W.int (WK t a b i j)))/\(∀q,q<D.length->B[q]? =D[q]?)/\D.length<B.length)
    (λj P B r ⟨Y,H,X,Q,k3⟩=>by
     subst H;obtain⟨l,C⟩:=lR (A:=B) (i:=i) (j:=j) h v u (y4:=rO A.length) (y6:=rO D.length) (x3:=iO K);refine⟨.int (0+(j:Int)),(fs t a b (iO K) (rO A.length) (iO i) (rO D.length) (iO j)),(B++[O.lst l]).set D.length (O.lst ((List.range (j+1)).map λj=>W.int (WK t a b i j))),ym r,?_,_,rfl,?_,λq c=>?_,?_⟩
     ·rw[Int.zero_add]
      refine(jO rfl).trans ((zw (wW (w:=.non) ((ZC (zj rfl) X C).trans ((QX (ju X) (by simp;lia)).trans ?_)))).trans qC)
      rw[bf,aN]
      rfl
     ·exact av (by simp;lia)
     ·rw[aw (by lia),ah (by lia)]
      exact Q q c
     ·simp;lia)
    (λP B _=>yj) K 0 (fs t a b (iO K) (rO A.length) (iO i) (rO D.length) Y) (D++[O.lst []]) (by lia) ⟨Y,rfl,qB,λq c=>ah c,by simp⟩
   have E:B[A.length]? =some (.lst (M.map W.ref)):=(Q _ d).trans S;refine⟨(fs t a b (iO K) (rO A.length) (iO i) (rO D.length) y),B.set A.length (O.lst ((M++[D.length]).map W.ref)),(ym f).trans (by rw[Int.zero_add]),?_,M++[D.length],_,_,_,rfl,?_,by rw[au,g2];rfl,λx p=>?_,λq c=>?_⟩
   ·refine(jO rfl).trans ((zw ((qi (jx zJ)).trans rfl)).trans ((zw ((jy (yI (zj rfl) kn)).trans ?_)).trans ((zw (wW (w:=.non) ((ZC (zj rfl) E (zj rfl)).trans ((QX E (by simp;lia)).trans ?_)))).trans qC)))
    ·rw[aB]
     exact J
    ·rw[aN]
     rfl
   ·exact av (by lia)
   ·by_cases g:x<i
    ·obtain⟨f1,f2⟩:=Z x g
     rw[Oy (by lia),aw (by lia),Q _ (j0 f2)]
     exact⟨f1,f2⟩
    ·obtain rfl:x=M.length:=by lia
     rw[Ox,aw (by lia),g2]
     exact⟨d,X⟩
   ·rw[aw (by lia),Q _ (by lia)]
    exact n q c)
  (λP B _=>yj) K 0 (fs t a b (iO K) (rO A.length) none none none) (A++[O.lst []]) (by lia) ⟨[],none,none,none,rfl,qB,rfl,λx p=>by lia,λq c=>ah c⟩
 refine⟨B,qV ?_,TC (by have:=j0 S;lia) n,ao _,M,S,g2,λi f=>⟨by have:=(Z i f).1;lia,(Z i f).2.trans ?_⟩⟩
 ·dsimp only[V3,mq]
  refine(zw ((qi ((zT (zu (zj rfl) zJ)).trans ((Ue h A).trans (by rw[z])))).trans rfl)).trans ((zw ((qi (jx zJ)).trans rfl)).trans ((zw (ρ1:=(fs t a b (iO K) (rO A.length) U T Y)) (A1:=B) ((jy (yI (k:=(K:Int)) (zj rfl) kn)).trans ?_)).trans (qk (qN (zj rfl)))))
  rw[aB];exact e
 ·unfold jo j5
  rw[aa,ay,aQ f];show _=some (O.lst (((List.range K).map (shr t a b t.length i)).map W.int));rw[aW]
  rfl
end
def Zl (S:List (bQ))(K r k:Nat)(B:Hx):Prop:=∃a:bW,B[r]? =some (.lst (a.map W.ref))/\a.length=k/\∀x,x<k->Sh B (r+1) (a.getD x 0) K (S.getD x [])
section
variable {s:List (bQ)}{K k a b r:Nat}{C:Hx}{u:bQ}
def Zl.ext (h:Zl s K r k B)(x:Ext B C):Zl s K r k C:=let ⟨b,d,c,a⟩:=h;⟨b,x.at d,c,λy H=>(a y H).mono (ao _) λ_ _ _ e=>x.at e⟩
abbrev fo (u:bQ)(n:Nat)(a X x:Option W):En:=[some (zm u),rO n,a,X,x]
def NS (u:bQ)(s:List (bQ))(K k:Nat)(A:Hx)(p:Nat)(B:Hx):Prop:=
 (∀q,q<A.length->B[q]? =A[q]?)/\((Zl s K A.length k B/\∀a b,a<u.length->b<u.length->a * u.length+b<p->at2 u a b≠(k:Int))∨Zl s K A.length (k+1) B)
abbrev Vm:Ex:=zy (jB (wF (zh yi (mQ qf (zN zG)) zQ) (zh yi (zh zD (zh zD zH qv) qw) zQ)) (zy (yx (j4 yk zG (zP V4 (zi zH (zi qv (zi qw zr)))))) zV) zV) zV
def ZD {r:Nat}(h:ρ[i]? =some (rO r))(H:B[r]? =some (.lst ws)):mQ qf (zN (zS i)) ρ B=.ok (.int ws.length) B:=
 (jP (yc (zj h) (by unfold zI;dsimp only;rw[H]))).trans rfl
def lT (h:qm u)(D:qb u=(K:Int))(sh:∀a b,a<u.length->b<u.length->jo u K a b=s.getD (at2 u a b).toNat [])(Y:k<K)(y:a<u.length)(f:b<u.length)(N:NS u s K k A (a * u.length+b) B):
  ∃C,Vm (fo u A.length (iO k) (iO a) (iO b)) B=.ok (.nx (fo u A.length (iO k) (iO a) (iO b))) C/\NS u s K k A (a * u.length+b+1) C:=by
 have kb:=kH h;rcases N with ⟨p,⟨⟨ks,Z,g2,g3⟩,hn⟩|⟨ks,Z,g2,g3⟩⟩
 ·have E:=ZD (ρ:=(fo u A.length (iO k) (iO a) (iO b))) (i:=1) rfl Z
  rw[af,g2]at E;have g:=(zB E (zj (i:=2) rfl)).trans (gz (k:Int) (k:Int) B);have M:=(zB (Vx h (zj (i:=0) rfl) (zj (i:=3) rfl) (zj (i:=4) rfl) y f) (zj (ρ:=(fo u A.length (iO k) (iO a) (iO b))) (i:=2) rfl)).trans (gz (at2 u a b) (k:Int) B);have c:=Wo g M;rw[ax rfl,Bool.true_and]at c
  by_cases v:at2 u a b=(k:Int)
  ·rw[ax v]at c
   obtain⟨C,L,X,z⟩:=lS h D y f B;have c1:=X.at Z;have S:=j0 Z;have Q:=X.len;rw[sh a b y f,v,aB]at z;refine⟨C.set A.length (.lst ((ks++[B.length]).map W.ref)),(zw ((yP c).trans ((zw (wW (w:=.non) ((ZC (zj rfl) Z ((zT (zu (zj rfl) (zu (zj rfl) (zu (zj rfl) zJ)))).trans L)).trans ((QX c1 (by rw[af];lia)).trans ?_)))).trans qC))).trans qC,λq d=>?_,.inr ⟨ks++[B.length],?_,by rw[au,g2];rfl,λx T=>?_⟩⟩
   ·rw[aN]
    rfl
   ·rw[aw (by lia),<- p q d]
    obtain⟨l,rfl⟩:=X;exact ah (by lia)
   ·exact av (by lia)
   ·have st:∀q o,A.length+1<=q->C[q]? =some o->(C.set A.length (.lst ((ks++[B.length]).map W.ref)))[q]? =some o:=λq o d e=>by rw[aw (by lia)];exact e
    by_cases r:x<k
    ·rw[Oy (by lia)]
     exact(g3 x r).mono (ao _) λq o d e=>st q o d (X.at e)
    ·obtain rfl:x=ks.length:=by lia
     rw[Ox,g2];exact z.mono (by lia) st
  ·rw[aE v]at c
   refine⟨B,(zw ((jK c).trans qC)).trans qC,p,.inl ⟨⟨ks,Z,g2,g3⟩,λn j t H U=>?_⟩⟩
   by_cases e:n * u.length+j<a * u.length+b
   ·exact hn n j t H e
   ·have P:n * u.length+j=a * u.length+b:=by lia
    have J:n=a:=by
     have h1:=congrArg (· / u.length) P
     rwa[mul_comm,Nat.mul_add_div (by lia),Nat.div_eq_of_lt H,mul_comm a,Nat.mul_add_div (by lia),Nat.div_eq_of_lt f]at h1
    subst J;have I:j=b:=by lia
    subst I;exact v
 ·have E:=ZD (ρ:=(fo u A.length (iO k) (iO a) (iO b))) (i:=1) rfl Z
  rw[af,g2]at E;have g:=(zB E (zj (i:=2) rfl)).trans (gz ((k+1:Nat):Int) (k:Int) B);rw[aE (by lia)]at g
  exact⟨_,(zw ((jK (JJ g)).trans qC)).trans qC,p,.inr ⟨ks,Z,g2,g3⟩⟩
def M6 (h:qm u)(i:qb u=(K:Int))(sh:∀a b,a<u.length->b<u.length->jo u K a b=s.getD (at2 u a b).toNat [])(A:Hx):∃B,RQ [zm u] A=.ok (.ref A.length) B/\Ext A B/\Zl s K A.length K B:=by
 have kb:=kH h;have n8:=h.n8;have kn:jv (K:Int)=true:=ZT (by lia)
 have U:jv (u.length:Int)=true:=ZT (by lia)
 obtain⟨o,B,e,Y,y,S,rfl,g,gN⟩:=yH (j:=jQ 0 K) (st:=turn (zM 2) (zy (jD (j8 (mQ qf (zN zH))) (zM 3) (zy (jD (j8 (mQ qf (zN zH))) (zM 4) Vm) zV)) zV)) (N:=K)
  (I:=λk T B=>∃Y y S,T=(fo u A.length Y y S)/\(∀q,q<A.length->B[q]? =A[q]?)/\Zl s K A.length k B)
  (λk T B f ⟨Y,y,S,H,g,gN⟩=>by
   subst H;obtain⟨X,M,w,p,Z,rfl,n⟩:=yH (j:=jQ 0 u.length) (st:=turn (zM 3) (zy (jD (j8 (mQ qf (zN zH))) (zM 4) Vm) zV)) (N:=u.length)
    (I:=λa T B=>∃y S,T=(fo u A.length (iO k) y S)/\NS u s K k A (a * u.length) B)
    (λa T B c ⟨y,S,H,N⟩=>by
     subst H;obtain⟨l,L,t,Z,rfl,J⟩:=yH (j:=jQ 0 u.length) (st:=turn (zM 4) Vm) (N:=u.length)
      (I:=λb T B=>∃S,T=(fo u A.length (iO k) (iO a) S)/\NS u s K k A (a * u.length+b) B)
      (λb T B d ⟨S,H,N⟩=>by subst H;obtain⟨C,E,D⟩:=lT h i sh f c d N;exact⟨_,_,C,ym d,(jO (by rw[Int.zero_add];rfl)).trans E,_,rfl,D⟩)
      (λT B _=>yj) u.length 0 (fo u A.length (iO k) (iO a) S) B (by lia) ⟨S,rfl,N⟩
     refine⟨.int (0+(a:Int)),(fo u A.length (iO k) (iO a) Z),L,ym c,(jO (by rw[Int.zero_add];rfl)).trans ((zw ((jy (yI (len_tab rfl) U)).trans ?_)).trans qC),_,_,rfl,?_⟩
     ·rw[aB]
      exact t
     ·rw[succ_mul]
      exact J)
    (λT B _=>yj) u.length 0 (fo u A.length (iO k) y S) B (by lia) ⟨y,S,rfl,g,.inl ⟨gN,λa b _ _ Q=>by lia⟩⟩
   refine⟨.int (0+(k:Int)),(fo u A.length (iO k) p Z),M,ym f,(jO (by rw[Int.zero_add];rfl)).trans ((zw ((jy (yI (len_tab rfl) U)).trans ?_)).trans qC),_,_,_,rfl,n.1,?_⟩
   ·rw[aB]
    exact w
   ·rcases n.2 with ⟨_,hn⟩|z
    ·exfalso
     obtain⟨a,b,c,d,e⟩:=QB h (v:=k) (by lia)
     refine hn a b c d ?_ e
     have:(a+1) * u.length<=u.length * u.length:=Nat.mul_le_mul_right _ c
     rw[succ_mul]at this;lia
    ·exact z)
  (λT B _=>yj) K 0 (fo u A.length none none none) (A++[.lst []]) (by lia) ⟨none,none,none,rfl,λq r=>ah r,[],qB,rfl,λx P=>by lia⟩
 refine⟨B,qV ?_,TC (by obtain⟨ks,g1,_⟩:=gN;have:=j0 g1;lia) g,gN⟩
 dsimp only[VR,mq];refine(zw (ρ1:=(fo u A.length none none none)) (A1:=A++[.lst []]) ((qi (jx zJ)).trans rfl)).trans ((zw (ρ1:=(fo u A.length Y y S)) (A1:=B) ((jy (yI (k:=(K:Int)) ((zT (zu (zj rfl) zJ)).trans ((Ue h _).trans (by rw[i]))) kn)).trans ?_)).trans (qk (qN (zj rfl))))
 rw[aB];exact e
end
noncomputable def Lk (i:Nat):Nat->Hx
 |0=>[.lst (ZL i 0 3)]|k+1=>Lk i k++[.lst (ZL i (3 * (k+1)) 3),.lst (ZL i 0 (3 * (k+2)))]
def GX (i:Nat):Hx:=Lk i 5++[.lst [.int i]]
def wY (x:Str):Option Nat:=if x = "NoTable" then some 0 else if x = "NotSteady" then some 1 else if x = "NoNumbers" then some 17 else if x = "NotWhole" then some 16 else none
def Pq (h:wY x=some i):(x = "NoTable" /\ i=0)∨(x = "NotSteady" /\ i=1)∨(x = "NoNumbers" /\ i=17)∨(x = "NotWhole" /\ i=16):=by
 unfold wY at h
 by_cases c:x = "NoTable"
 ·rw[ai c]at h;cases h;exact .inl ⟨c,rfl⟩
 ·rw[aj c]at h
  by_cases b:x = "NotSteady"
  ·rw[ai b]at h;cases h;exact .inr (.inl ⟨b,rfl⟩)
  ·rw[aj b]at h
   by_cases a:x = "NoNumbers"
   ·rw[ai a]at h;cases h;exact .inr (.inr (.inl ⟨a,rfl⟩))
   ·rw[aj a]at h
    by_cases H:x = "NotWhole"
    ·rw[ai H]at h;cases h;exact .inr (.inr (.inr ⟨H,rfl⟩))
    ·rw[aj H]at h;cases h
theorem K7 (i:Nat):∀k,(Lk i k).length=2 * k+1
 |0=>rfl|k+1=>by
  unfold Lk;rw[au,K7 i k]
  rfl
def KS {k:Nat}{u:W}{a:Ea}(H:∀m A,a [some u,some (.xc x),none,m] A=.ok (ZL i (3 * (k+1)) 3) A)(b:k<6:=by decide):qd 3 (zh ql qv (qA a)) [some u,some (.xc x),none,rO (A.length+2 * k)] (A++Lk i k)=.ok (.nx [some u,some (.xc x),none,rO (A.length+2 * (k+1))]) (A++Lk i (k+1)):=by
 have h:(Lk i k)[2 * k]? =some (.lst (ZL i 0 (3 * (k+1)))):=by
  cases k with
  |zero=>rfl|succ k=>
   unfold Lk;rw[ar (by rw[K7];lia),K7,show 2 * (k+1)-(2 * k+1)=1 by lia]
   rfl
 have:=D6 (A:=A) h H (by simp[ZL];lia) (zs:=ZL i 0 (3 * (k+2))) (by
  unfold ZL;rw[<- aN]
  congr 1
  have:=List.range'_append_1 (s:=0) (m:=3 * (k+1)) (n:=3)
  rwa[zero_add]at this)
 rw[K7]at this;exact this
def CO (e:wY x=some i)(u:W)(A:Hx):VL [some u,some (.xc x),none,none] A=.ok (.rt (.ref (A.length+11))) (A++GX i):=by
 have two:=Pq e;unfold VL;have z:∀{P:Str->Nat->Prop},P "NoTable" 0->P "NotSteady" 1->P "NoNumbers" 17->P "NotWhole" 16->P x i:=λa b c d=>by rcases two with ⟨rfl,rfl⟩|⟨rfl,rfl⟩|⟨rfl,rfl⟩|⟨rfl,rfl⟩<;>assumption
 refine(zw (ρ1:=[some u,some (.xc x),none,rO (A.length+2 * 0)]) (A1:=A++Lk i 0) ((qi (jx (z (P:=λx i=>zi _ (zi _ (zi _ zr)) [some u,some (.xc x),none,none] A=.ok (ZL i 0 3) A) (by kernel_rfl) (by kernel_rfl) (by kernel_rfl) (by kernel_rfl)))).trans rfl)).trans ?_
 refine(zw (KS λm A=>?_)).trans ((zw (KS λm A=>?_)).trans ((zw (KS λm A=>?_)).trans ((zw (KS λm A=>?_)).trans ((zw (KS λm A=>?_)).trans ?_))))
 iterate 5 · rcases two with ⟨rfl,rfl⟩|⟨rfl,rfl⟩|⟨rfl,rfl⟩|⟨rfl,rfl⟩<;>kernel_rfl
 have H:(A++Lk i 5).length=A.length+11:=by rw[au,K7]
 have f:(A++Lk i 5)[A.length+10]? =some (.lst (ZL i 0 18)):=by rw[ar (by lia),show A.length+10-A.length=10 by lia];rfl
 unfold GX;rw[<- aP];generalize A++Lk i 5=B at H f;refine(zw (ρ1:=[some u,some (.xc x),none,rO (A.length+10)]) (A1:=B) ((jK (A1:=B) (kR (k:=true) ?_)).trans rfl)).trans (qk (qN ?_))
 ·rcases two with ⟨rfl,rfl⟩|⟨rfl,rfl⟩|⟨rfl,rfl⟩|⟨rfl,rfl⟩<;>kernel_rfl
 have E:=Pw (cap:=[3]) (mi:=j8 (zW (.int 18))) (j:=jQ 0 18) (ifs:=zh zD zG zH) (me:=zS 0) (ρ:=[some u,some (.xc x),none,rO (A.length+10)]) (A:=B) (N:=18) (item:=λk=>.int (0+(k:Int))) (g:=λk=>.int (0+(k:Int))) (keep:=λk=>decide (k=i)) rfl rfl (by unfold zX;lia) (λk h=>ym h) (yj)
  (λk h=>by
   refine(zB (zj (i:=1) (w:=.ref (A.length+10)) rfl) (zj (i:=0) (w:=.int (0+(k:Int))) rfl)).trans ?_;rw[Int.zero_add];refine wM f ?_;unfold ZL;rw[ay,List.getElem?_range' (by lia)]
   simp) (λk h _=>rfl)
 rw[yZ E,H,show((List.range 18).filter λk=>decide (k=i)).map (λk:Nat=>W.int (0+(k:Int)))=[.int i] by rcases two with ⟨rfl,rfl⟩|⟨rfl,rfl⟩|⟨rfl,rfl⟩|⟨rfl,rfl⟩<;>rfl]
def lU (h:wY x=some i):jU.contains x=true:=by rcases Pq h with ⟨rfl,_⟩|⟨rfl,_⟩|⟨rfl,_⟩|⟨rfl,_⟩<;>decide +kernel
def RG (t:Lm)(k:Nat)(w:List W)(A:Hx):R W:=match gr [t] k w A with
 |.exc x a=>(match wY x with|some i=>.ok (.ref (a.length+11)) (a++GX i)|none=>.bad)
 |_=>.bad
section
variable {PG:Zh}{k:Nat}{t:Lm}{q:Str}
def BU (H:gr [t] k ws A=.exc x A1)(h:wY x=some i):
  qz 4 (Kv PG (gr [t])) [.clo k ws (PG k)] A=.ok (.ref (A1.length+11)) (A1++GX i):=by
 have E:X3 0 PG (gr [t]) [some (.clo k ws (PG k)),some .non,none,none] A=.exc x A1:=by unfold X3;refine(ai rfl).trans H
 have e:WH 0 1 2 jU PG (gr [t]) [some (.clo k ws (PG k)),some .non,none,none] A=.ok (.nx [some (.clo k ws (PG k)),some (.xc x),none,none]) A1:=by
  unfold WH;rw[E];dsimp only;rw[ai (lU h)]
  rfl
 refine qV ?_;unfold Kv;refine(zw (ρ1:=[some (.clo k ws (PG k)),some .non,none,none]) (A1:=A) rfl).trans ?_;exact(zw e).trans (CO h _ A1)
def Mr (H:gr [t] k ws A=.exc x A1)(h:wY x=some i):RG t k ws A=.ok (.ref (A1.length+11)) (A1++GX i):=by unfold RG;rw[H];dsimp only;rw[h]
set_option tactic.hygienic true in
def Mn (u:List W)(A:Hx):QK PG (RG t) u A=.bad∨qz 4 (Kv PG (gr [t])) u A=QK PG (RG t) u A:=by
 by_cases H:QK PG (RG t) u A=.bad
 ·exact .inl H
 right
 unfold QK at H ⊢
 split
 ·rename_i k b P
  dsimp only at H
  by_cases a:P=PG k
  ·subst a
   rw[ai rfl]at H ⊢;cases e:gr [t] k b A with
   |exc x c=>
    cases hm:wY x with|none=>exfalso;apply H;unfold RG;rw[e];dsimp only;rw[hm]|some i=>rw[BU e hm,Mr e hm]
   |ok w c=>exfalso;apply H;unfold RG;rw[e]|bad=>exfalso;apply H;unfold RG;rw[e]
  ·rw[aj a]at H;exact absurd rfl H
 ·rename_i h
  exfalso
  apply H
  split
  ·rename_i k b P
   exact(h k b P rfl).elim
  ·rfl
def UM (a:A[n]? =some (.tab q Pt))(c:QM t.idx ρ=some ws)(H:t.m (ws.map some) A=.exc x A1)(h:wY x=some i):wZ n q Pt t.idx (RG t 0) ρ A=.ok (.ref (A1.length+11)) (A1++GX i):=by unfold wZ;rw[a];dsimp only;rw[ai ⟨rfl,rfl⟩,c];exact Mr H h
def Sb (A:Hx)(i:Nat):(A++GX i)[A.length+11]? =some (.lst [.int i]):=by
 rw[ar (by lia),show A.length+11-A.length=11 by lia]
 rfl
def Fm:wY "NoTable"=some 0:=by decide +kernel
def IY:wY "NotSteady"=some 1:=by decide +kernel
end
def gW (m:Nat):bQ:=j5 m λi j=>if i=j then 0 else 1
def rg (n:Nat):bQ:=j5 n λi j=>((min ((i+n-j)%n) ((j+n-i)%n):Nat):Int)
def bl (m s:Nat):bQ:=j5 (m * s) λi j=>if i=j then 0 else if i/s=j/s then 1 else 2
def un (n:Nat):bQ:=j5 (2 ^ n) λi j=>(((List.range n).map λp=>((i ^^^ j) >>> p)%2).sum:Nat)
def ow (n:Nat):bQ:=j5 (2 ^ n) λi j=>((i ^^^ j:Nat):Int)
def bs (w:Int)(t:bQ):bQ:=j5 (2 * t.length) λi j=>if i/t.length=j/t.length then at2 t (i%t.length) (j%t.length) else qb t+w * at2 t (i%t.length) (j%t.length)
def bT:Nat->List (bR)
 |0=>gW 5|1=>rg 6|2=>rg 4|3=>bl 2 3|4=>un 3|5=>ow 2|6=>j5 6 λi j=>if i=j then 0 else if i+j=5 then 2 else 1|7=>bs 1 (gW 3)|8=>bs 0 (rg 4)|9=>rg 5|10=>rg 7|_=>rg 8
def dq (n:Nat):Nat->List α->List α
 |0,l=>l|k+1,l=>(dq n k l).drop n
def wA {k:Nat}{l:List α}{f:α->Bool}(h:((dq n k l).take n).all f=true)(H:(dq n (k+1) l).all f=true):(dq n k l).all f=true:=by rw[<- take_append_drop n (dq n k l),all_append,h];exact H
def Kj (i:Nat):Bool:=Vb (bT i)&&(UR (bT i)&&(decide ((Rw (bT i) (qb (bT i)).toNat).length=(qb (bT i)).toNat)==decide (i<9)))
def lV:((dq 3 0 (List.range 12)).take 3).all Kj=true:=by decide +kernel
def lW:((dq 3 1 (List.range 12)).take 3).all Kj=true:=by decide +kernel
def lX:((dq 3 2 (List.range 12)).take 3).all Kj=true:=by decide +kernel
def lY:((dq 3 3 (List.range 12)).take 3).all Kj=true:=by decide +kernel
def lZ:(List.range 12).all Kj=true:=wA (n:=3) (k:=0) lV (wA lW (wA lX (wA lY rfl)))
def Sn (h:i<12):qm (bT i)/\jz (bT i)/\qb (bT i)=((qb (bT i)).toNat:Int)/\((Rw (bT i) (qb (bT i)).toNat).length=(qb (bT i)).toNat↔i<9):=by
 have H:=cy.mp lZ i (cm.mpr h);unfold Kj at H;rw[ak,ak,aL,decide_eq_decide]at H;have t:=Nh H.1
 have:=kH t
 exact⟨t,EG H.2.1,by lia,H.2.2⟩
def LP (n K:Nat)(z:bR)(R:bQ):Bool:=if R.length=K then decide (su R (jL n K z)=(n:Int))&&((List.range K).all λk=>(List.range K).all λj=>decide (su R (λw=>jL n K z w * (w.getD k 0 * w.getD j 0))=if k=j then(n:Int) * z.getD k 0 else 0)) else decide (su R (jL n K z)<(n:Int))
def l0 (t:bQ)(K:Nat):Vt t K=LP t.length K (qu t K) (Rw t K):=rfl
def wd:List (List Int×List (bR)):=[([1,4],[[1,4],[1,-1]]),([1,2,2,1],[[1,2,2,1],[1,1,-1,-1],[1,-1,-1,1],[1,-2,2,-1]]),([1,2,1],[[1,2,1],[1,0,-1],[1,-2,1]]),([1,2,3],[[1,2,3],[1,2,-3],[1,-1,0]]),([1,3,3,1],[[1,3,3,1],[1,1,-1,-1],[1,-1,-1,1],[1,-3,3,-1]]),([1,1,1,1],[[1,1,1,1],[1,1,-1,-1],[1,-1,1,-1],[1,-1,-1,1]]),([1,4,1],[[1,4,1],[1,0,-1],[1,-2,1]]),([1,2,1,2],[[1,2,1,2],[1,2,-1,-2],[1,-1,1,-1],[1,-1,-1,1]]),([1,2,1,4],[[1,2,1,4],[1,2,1,-4],[1,0,-1,0],[1,-2,1,0]])]
def Vj (i:Nat):Bool:=match wd[i]? with|some (z,R)=>decide (qu (bT i) (qb (bT i)).toNat=z)&&(decide (Rw (bT i) (qb (bT i)).toNat=R)&&(decide (R.length=(qb (bT i)).toNat)&&LP (bT i).length (qb (bT i)).toNat z R))|none=>false
def l6:((dq 3 0 (List.range 9)).take 3).all Vj=true:=by decide +kernel
def l7:((dq 3 1 (List.range 9)).take 3).all Vj=true:=by decide +kernel
def l8:((dq 3 2 (List.range 9)).take 3).all Vj=true:=by decide +kernel
def l9 (h:i<9):Vt (bT i) (qb (bT i)).toNat=true:=by
 have H:=cy.mp (wA (n:=3) (k:=0) (l:=List.range 9) l6 (wA l7 (wA l8 rfl))) i (cm.mpr h);unfold Vj at H
 split at H
 ·rw[ak,ak,ak,aq,aq]at H
  rw[l0,H.1,H.2.1];exact H.2.2.2
 ·cases H
def Rn (r:R W)(t:bQ):Bool:=match r with|.ok w _=>w.nr&&w.beq (zm t)|_=>false
def gf {f:Fn}{u:List W}(H:qQ u=true)(h:Rn (f u []) t=true)(A:Hx):iso f u A=.ok (zm t) A:=by
 unfold Rn at h
 split at h
 ·rename_i w B e
  rw[ak]at h
  have:=W.eq_of h.2
  subst this;exact ZF H h.1 e
 ·cases h
section
abbrev a2:bQ:=gW 2
def LV (A:Hx):Kx [.int 2] A=.ok (zm a2) A:=gf rfl (by decide +kernel) A
def md (A:Hx):Kx [.int 3] A=.ok (zm (gW 3)) A:=gf rfl (by decide +kernel) A
def LH (A:Hx):Qh [.int 4] A=.ok (zm (rg 4)) A:=gf rfl (by decide +kernel) A
def mf (A:Hx):RO [.int 2] A=.ok (zm (ow 2)) A:=gf rfl (by decide +kernel) A
abbrev c1 {f:Fn}{m:Ev}{w v:W}(H:m ρ A=.ok w A)(h:f [w] A=.ok v A):zP f (zi m zr) ρ A=.ok v A:=(zT (zu H zJ)).trans h
abbrev c2 {f:Fn}{m k:Ev}{w x v:W}(a:m ρ A=.ok w A)(H:k ρ A=.ok x A)(h:f [w,x] A=.ok v A):zP f (zi m (zi k zr)) ρ A=.ok v A:=(zT (zu a (zu H zJ))).trans h
variable {S:List (bQ)}{z v:bR}{K k j x:Nat}{C:Hx}{T:W}
def Ta {m M:Ev}{b:Hx}{i j:Int}(h:m ρ A=.ok (.int i) A1)(c:M ρ A1=.ok (.int j) b)(a:jv i=true)(H:jv j=true):Jc m M ρ A=.ok (jQ i (j-i).toNat) b:=by
 unfold Jc;rw[h,zK,c,zK];dsimp only;rw[a,H]
 rfl
def Jx {v:Int}(h:-1000<v)(H:v<1000:=by lia):jv v=true:=by unfold jv;rw[ak,aq,aq];lia
def Wf.s (w:Wf K S):∀i,i<K->(S.getD i []).length=K:=λi h=>w.r _ (by rw[aa,ae (by rw[w.l];exact h)];exact aK _)
def Sk (w:Wf K S)(e:Zl S K n K B){p mk o M:Ev}(r:p ρ B=.ok (.ref n) B)(H:mk ρ B=.ok (.int (k:Int)) B)(b:o ρ B=.ok (.int (i:Int)) B)(a:M ρ B=.ok (.int (j:Int)) B)(g:k<K)(q:i<K)(L:j<K):
  zh zD (zh zD (zh zD p mk) o) M ρ B=.ok (.int (pS S k i j)) B:=by
 have d:S.getD k []∈S:=by rw[aa,ae (by rw[w.l];exact g)];exact aK _
 obtain⟨y,u,z,t⟩:=e;obtain⟨_,I,v,A,f⟩:=t k g;have ix:∀{l:bW}{x:Nat},x<l.length->(l.map W.ref)[x]? =some (.ref (l.getD x 0)):=λ {l x} h=>by rw[ay,aa,ae h];rfl
 refine(zB ((zB ((zB r H).trans (wM u (ix (by lia)))) b).trans (wM v (ix (by lia)))) a).trans (wM (f i q).2 (int_at ?_))
 rw[w.c _ d _ (kz (by rw[w.s k g];exact q))]
 exact L
abbrev fa (T:W)(v:bR)(n:Nat)(a X x:Option W):En:=[some T,some (zo v),rO n,a,X,x]
abbrev LB:Ex:=zy (qd 5 (mQ wH (qy 1 [1,2,3,4] (j8 (mQ qf (zN zG))) (zM 0) qH (qe (zh qt (zh zD (zh zD (zh zD zQ zH) qv) qw) (zh zD zG zH)))))) (zy (jB (zh je (zh qt (zh zD zG qv) (zh zD zG qw)) jN) yT zV) zV)
def Sw (H:v.length=K){r:Nat}(h:ρ[r]? =some (some (zo v))):mQ qf (zN (zS r)) ρ B=.ok (.int K) B:=by rw[Wi (ws:=v.map W.int) h,af,H]
def mh (w:Wf K S)(p:Zl S K n K B)(a:v.length=K)(r:K<=8)(H:Bg v)(o:i<K)(f:j<K){x5:Option W}:∃y5,LB (fa T v n (iO i) (iO j) x5) B=.ok (if yD S v i j then .nx (fa T v n (iO i) (iO j) y5) else .rt (.bl false)) B:=by
 have c:=w9 (cap:=[1,2,3,4]) (mi:=j8 (mQ qf (zN zG))) (me:=zh qt (zh zD (zh zD (zh zD zQ zH) qv) qw) (zh zD zG zH)) (ρ:=fa T v n (iO i) (iO j) x5) (A:=B) (N:=K) (item:=λk=>.int (0+(k:Int))) (g:=λk=>.int (pS S k i j * v.getD k 0))
  (yI (Sw a rfl) (ZT)) (by rw[aB];rfl) (by unfold zX;lia) (λk h=>by rw[aB];exact ym h) (by rw[aB];exact yj)
  (λk h=>by
   have P:=w.b (S.getD k []) (by rw[aa,ae (by rw[w.l];exact h)];exact aK _) i j
   rw[Int.zero_add];exact(zB (Sk w p (zj rfl) (zj rfl) (zj rfl) (zj rfl) h o f) ((zB (zj rfl) (zj rfl)).trans wC)).trans (yd (by show -(2 ^ 64)<at2 _ i j;lia) (by show at2 _ i j<2 ^ 64;lia)))
 have t:((List.range K).map λk=>W.int (pS S k i j * v.getD k 0))=((List.range K).map λk=>pS S k i j * v.getD k 0).map W.int:=by rw[aW];rfl
 rw[t]at c;have E:=(jP c).trans (K2 _);generalize d:((List.range K).map λk=>pS S k i j * v.getD k 0).sum=s at E;have e:zh je (zh qt (zh zD zG qv) (zh zD zG qw)) jN (fa T v n (iO i) (iO j) (iV s)) B=.ok (.bl (!decide (v.getD i 0 * v.getD j 0=s))) B:=
  (zB ((zB ((zB (zj rfl) (zj rfl)).trans wC) ((zB (zj rfl) (zj rfl)).trans wC)).trans (N0 (XD H i) (XD H j))) (zj rfl)).trans (Jl _ _ _)
 have q:yD S v i j=decide (v.getD i 0 * v.getD j 0=s):=by
  unfold yD;rw[a,List.drop_of_length_le (by rw[w.l];exact ao _),d]
  rfl
 refine⟨iV s,(zw ((qi E).trans rfl)).trans ?_⟩;rw[q];cases hd:decide (v.getD i 0 * v.getD j 0=s) with|true=>rw[hd]at e;exact(zw ((jK e).trans qC)).trans qC|false=>rw[hd]at e;exact qk ((yP e).trans (qk (qN zR)))
abbrev LI:Ex:=zy (jD (j8 (mQ qf (zN zG))) (zM 4) LB) zV
def mj (w:Wf K S)(g:Zl S K n K B)(l:v.length=K)(f:K<=8)(c:Bg v)(d:i<K){x4 x5:Option W}:
  (∃y4 y5,(List.range K).all (yD S v i)=true/\LI (fa T v n (iO i) x4 x5) B=.ok (.nx (fa T v n (iO i) y4 y5)) B)∨((List.range K).all (yD S v i)=false/\LI (fa T v n (iO i) x4 x5) B=.ok (.rt (.bl false)) B):=by
 have a:=yI (m:=mQ qf (zN zG)) (ρ:=fa T v n (iO i) x4 x5) (A:=B) (A1:=B) (k:=(K:Int)) (Sw l rfl) (ZW)
 rw[aB]at a;rcases Yt (j:=jQ 0 K) (st:=turn (zM 4) LB) (N:=K) (I:=λk p C=>C=B/\(List.range k).all (yD S v i)=true/\∃y4 y5,p=fa T v n (iO i) y4 y5) (Q:=λr C=>r=.bl false/\C=B/\(List.range K).all (yD S v i)=false)
  (λk p C H ⟨q,h,y4,y5,e⟩=>by
   subst e q;refine⟨_,ym H,?_⟩;obtain⟨z,o⟩:=mh (T:=T) (x5:=y5) (j:=k) w g l f c d H;have E:=(jO (tw:=zM 4) (w:=.int (0+(k:Int))) (ρ:=fa T v n (iO i) y4 y5) (ρ1:=fa T v n (iO i) (iO k) y5) (A:=C) (m1:=LB) (by rw[Int.zero_add];rfl)).trans o
   cases hf:yD S v i k with|true=>rw[hf]at E;exact .inl ⟨_,C,E,rfl,by rw[all_succ,h,hf];rfl,_,_,rfl⟩|false=>rw[hf]at E;exact .inr ⟨_,C,E,rfl,rfl,all_false H hf⟩)
  (λp B _=>yj) K 0 (fa T v n (iO i) x4 x5) B (by lia) ⟨rfl,rfl,_,_,rfl⟩ with ⟨b,C,e,rfl,h,y4,y5,rfl⟩|⟨r,C,e,rfl,rfl,h⟩
 ·exact .inl ⟨y4,y5,h,(zw ((jy a).trans e)).trans qC⟩
 ·exact .inr ⟨h,qk ((jy a).trans e)⟩
abbrev LR:Ex:=zy (jD (j8 (mQ qf (zN zG))) (zM 3) LI) (zy (wG qH) zV)
def ml (w:Wf K S)(g:Zl S K n K B)(l:v.length=K)(f:K<=8)(d:Bg v):LR (fa T v n none none none) B=.ok (.rt (.bl (yg S v))) B:=by
 have E:=yI (m:=mQ qf (zN zG)) (ρ:=fa T v n none none none) (A:=B) (A1:=B) (k:=(K:Int)) (Sw l rfl) (ZW)
 rw[aB]at E;rcases Yt (j:=jQ 0 K) (st:=turn (zM 3) LI) (N:=K) (I:=λk p C=>C=B/\(List.range k).all (λi=>(List.range K).all (yD S v i))=true/\∃y o Y,p=fa T v n y o Y) (Q:=λr C=>r=.bl false/\C=B/\yg S v=false)
  (λk p C a ⟨q,H,y,o,Y,e⟩=>by
   subst e q;refine⟨_,ym a,?_⟩;have t:=jO (tw:=zM 3) (w:=.int (0+(k:Int))) (ρ:=fa T v n y o Y) (ρ1:=fa T v n (iO k) o Y) (A:=C) (m1:=LI) (by rw[Int.zero_add];rfl)
   rcases mj (T:=T) (x4:=o) (x5:=Y) (i:=k) w g l f d a with ⟨Z,z,h,c⟩|⟨h,c⟩
   ·exact .inl ⟨_,C,t.trans c,rfl,by rw[all_succ,H];exact h,_,_,_,rfl⟩
   ·refine .inr ⟨_,C,t.trans c,rfl,rfl,?_⟩
    unfold yg;rw[l];exact all_false a h)
  (λp B _=>yj) K 0 (fa T v n none none none) B (by lia) ⟨rfl,rfl,_,_,_,rfl⟩ with ⟨b,C,e,rfl,H,y,o,Y,rfl⟩|⟨r,C,e,rfl,rfl,H⟩
 ·have:yg S v=true:=by unfold yg;rw[l];exact H
  rw[this];exact(zw ((jy E).trans e)).trans (qk (qN zR))
 ·rw[H]
  exact qk ((jy E).trans e)
def vI:W->Int
 |.int i=>i|_=>0
theorem M1:∀{w:List W},w.all km=true->(w.map vI).map W.int=w
 |[],_=>rfl|x::w,h=>by
  rw[all_cons,ak]at h;rw[aS,aS,M1 h.2];cases x with|int i=>rfl|_=>cases h.1
def Yf (S:List (bQ))(K:Nat):W->Bool
 |.tup w=>decide (w.length=K)&&(w.all km&&(decide ((w.map vI).getD 0 0=1)&&yg S (w.map vI)))|_=>false
def Cw (x:W):Prop:=x.nr=true/\∃ty,∀A,jM x A=some ty
def L6 (A:Hx)(w:W):Prop:=(∃a,w=.tup a/\a.length<=100/\(∀x∈a,Cw x)/\Bg (a.map vI))∨∃ty,jM w A=some ty/\ty≠.tup
def BG {x:W}(h:Cw x)(A:Hx):Gb [x] A=.ok (.bl (km x)) A:=by obtain⟨a,ty,H⟩:=h;exact ZF (A1:=[]) (by show(x.nr&&true)=true;rw[a];rfl) rfl (OW (H []))
def mn (w:Wf K S)(J:qm t)(o:qb t=(K:Int))(sh:∀a b,a<t.length->b<t.length->jo t K a b=S.getD (at2 t a b).toNat []){a:W}(h:L6 A a):∃B,Yh [zm t,a] A=.ok (.bl (Yf S K a)) B/\Ext A B:=by
 have Q:K<=8:=by have:=Xf J;have:=J.n8;lia
 have U:1<=K:=by have:=kH J;lia
 obtain⟨B,u,X,n⟩:=M6 J o sh A;obtain⟨T,N,P,_⟩:=id n;have L:mQ qf (zN zQ) [some (zm t),some a,rO A.length,none,none,none] B=.ok (.int (K:Int)) B:=(ZD (i:=2) rfl N).trans (by rw[af,P])
 refine⟨B,?_,X⟩;unfold Yh RI;refine qV ?_;dsimp only[VD,mq];refine(zw ((qi ((zT (zu (zj rfl) zJ)).trans u)).trans rfl)).trans ?_;rcases h with ⟨C,rfl,y,H,j⟩|⟨ty,H,hn⟩
 ·have E:ZR (kh (gC .tup zG)) (zh je (mQ qf (zN zG)) (mQ qf (zN zQ))) [some (zm t),some (.tup C),rO A.length,none,none,none] B=.ok (.bl (!decide (C.length=K))) B:=
   (Wn (kR (k:=true) ((QD (ty:=.tup) (zj rfl) rfl).trans rfl))).trans ((zB (Wi rfl) L).trans ((Jl _ _ _).trans (by congr 3;exact decide_eq_decide.mpr ⟨λz=>by lia,λz=>by lia⟩)))
  rw[show Yf S K (.tup C)=(decide (C.length=K)&&(C.all km&&(decide ((C.map vI).getD 0 0=1)&&yg S (C.map vI)))) from rfl]
  by_cases D:C.length=K
  ·rw[ax D]at E ⊢
   refine(zw ((jK E).trans qC)).trans ?_;have q:=Yy (cap:=[]) (A:=B) (ρ:=[some (zm t),some (.tup C),rO A.length,none,none,none]) (ws:=C) (m:=zG) (me:=zP Gb (zi zH zr)) (g:=λw=>.bl (km w)) (zj rfl) (by unfold zX;lia) (λx l=>(zT (zu (zj rfl) zJ)).trans (BG (H x l) B))
   have e:kh (mQ Y9 (qy 1 [] (qI zG) (zM 0) qH (qe (zP Gb (zi zH zr))))) [some (zm t),some (.tup C),rO A.length,none,none,none] B=.ok (.bl (!C.all km)) B:=by
    refine kR ((jP q).trans ?_);unfold Y9 Zg;rw[Gv];show R.ok (W.bl ((C.map km).all id)) B=_;rw[all_map]
    rfl
   cases I:C.all km with
   |false=>
    rw[I]at e;exact qk ((yP (Mv e)).trans (qk (qN zR)))
   |true=>
    rw[I]at e;have r:W.tup C=zo (C.map vI):=by unfold zo;rw[M1 I]
    have f:(C.map vI).length=K:=by rw[af];exact D
    rw[r]at e ⊢;generalize C.map vI=v at f j e;have d:=(Wn e).trans ((zB ((zB (zj (i:=1) (ρ:=fa (zm t) v A.length none none none) (A:=B) rfl) zR).trans (wC (b:=0) (by lia))) (zR (w:=.int 1))).trans (Jl _ _ _))
    by_cases M:v.getD 0 0=1
    ·rw[ax M]at d ⊢
     exact(zw ((jK d).trans qC)).trans (ml w n f Q j)
    ·rw[aE M]at d ⊢
     exact qk ((yP d).trans (qk (qN zR)))
  ·rw[aE D]at E ⊢
   exact qk ((yP E).trans (qk (qN zR)))
 ·have p:Yf S K a=false:=by
   cases a with|tup C=>exfalso;unfold jM at H;cases H;exact hn rfl|_=>rfl
  have E:=Mv (mb:=zh je (mQ qf (zN zG)) (mQ qf (zN zQ))) (kR (k:=false) ((QD (c:=.tup) (zj (i:=1) (ρ:=[some (zm t),some a,rO A.length,none,none,none]) (A:=B) rfl) (X.ky _ _ H)).trans (by cases ty<;>first|rfl|exact absurd rfl hn)))
  rw[p];exact qk ((yP E).trans (qk (qN zR)))
end
section
variable {S:List (bQ)}{z:bR}{K κ k j x p2:Nat}{C D:Hx}{row:bR}{T:W}
structure Kb (S:List (bQ))(z:bR)(K p2:Nat)(D B:Hx):Prop where
 nu:Zl S K 0 K D
 z_:D[p2]? =some (.lst (z.map W.int))
 x:Ext D B
def Kb.ext (h:Kb S z K p2 D B)(x:Ext B C):Kb S z K p2 D C:=⟨h.nu,h.z_,h.x.trans x⟩
def Df {y:W}(h:A[n]? =some (.lst ws))(H:ws.length<50000):yk (.ref n) y A=.ok .non (A.set n (.lst (ws++[y]))):=by unfold yk;dsimp only;rw[h];dsimp only;rw[ai (by unfold zX;lia)]
def wK (S:List (bQ))(K a i:Nat):bR:=(List.range (K-(a + 1))).map λd=>pS S (a + 1+d) i a
def Kr (S:List (bQ))(a i:Nat)(r:bR):Int:=((List.range (a + 1)).map λk=>pS S k i a * r.getD k 0).sum
def QP (S:List (bQ))(K a:Nat)(r:bR)(i:Nat):Bool:=!decide (kJ (wK S K a i++[0])=0) || decide (r.getD i 0 * r.getD a 0=Kr S a i r)
abbrev IB:Ex:=zy (qd 9 (jW (qy 1 [1,4,8] (Jc (zh ql qw qT) (mQ qf (zN zQ))) (zM 0) qH (qe (zh zD (zh zD (zh zD zG zH) qv) zQ))))) (zy (jB (zh yi (mQ gq (zN (zh ql Qe (qA (zi qG zr))))) qG) (zy (qd 10 (mQ wH (qy 1 [1,4,6,8] (j8 (zh ql qw qT)) (zM 0) qH (qe (zh qt (zh zD (zh zD (zh zD zG zH) qw) zQ) (zh zD qv zH)))))) (zy (qd 7 (wF wI (zh yi (zh qt (zh zD qL yS) (zh zD qL qw)) Y5))) zV)) zV) zV)
abbrev fr (p:Nat)(T:W)(f e d c b a X x:Option W):En:=[some T,rO 0,rO p,f,e,d,c,b,a,X,x]
abbrev fi (p:Nat)(T:W)(e:Option W)(a:Nat)(d:Option W)(r:bR)(c b X x:Option W):En:=fr p T e (iO a) d (some (zo r)) c b X x
def mu (w:Wf K S)(p:z.length=K)(f:Kb S z K p2 D B)(hK:K<=8)(H:κ < K)(r:row.length=κ + 1)(P:∀v∈row,-100<v/\v<100)(hi:i<=κ){x3 x5 x9 x10:Option W}{g:Bool}:
  ∃C Y y,IB (fi p2 T x3 κ x5 row (bO g) (iO i) x9 x10) B=.ok (.nx (fi p2 T x3 κ x5 row (bO (g&&QP S K κ row i)) (iO i) Y y)) C/\Ext B C:=by
 have o:B[p2]? =some (.lst (z.map W.int)):=f.x.at f.z_;have u:∀k,-100<row.getD k 0/\row.getD k 0<100:=λk=>by
  by_cases h:k<row.length
  ·rw[aa,ae h];exact P _ (aK _)
  ·rw[aa,az (by lia)];show -100<(0:Int)/\(0:Int)<100;lia
 have L:=w9 (cap:=[1,4,8]) (mi:=Jc (zh ql qw qT) (mQ qf (zN zQ))) (me:=zh zD (zh zD (zh zD zG zH) qv) zQ) (ρ:=fi p2 T x3 κ x5 row (bO g) (iO i) x9 x10) (A:=B) (N:=K-(κ + 1)) (j:=jQ ((κ:Int)+1) (((z.map W.int).length:Int)-((κ:Int)+1)).toNat)
  (item:=λd=>.int ((κ:Int)+1+(d:Int))) (g:=λd=>.int (pS S (κ + 1+d) i κ))
  (Ta ((zB (zj rfl) zR).trans rfl) (ZD rfl o) (Jx (by lia)) (Jx (by rw[af];lia) (by rw[af];lia)))
  (by show(((z.map W.int).length:Int)-((κ:Int)+1)).toNat=_;rw[af,p];lia) (by unfold zX;lia) (λd hd=>ym (by rw[af,p];lia)) (yj (by rw[af,p];lia))
  (λd hd=>by
   rw[show((κ:Int)+1+(d:Int))=((κ + 1+d:Nat):Int) by lia]
   exact Sk w (f.nu.ext f.x) (zj rfl) (zj rfl) (zj rfl) (zj rfl) (by lia) (by lia) H)
 have U:((List.range (K-(κ + 1))).map λd=>W.int (pS S (κ + 1+d) i κ))=(wK S K κ i).map W.int:=by unfold wK;rw[aW];rfl
 rw[U]at L;have M:(wK S K κ i).length=K-(κ + 1):=by unfold wK;simp
 have x1:Ext B (B++[O.lst ((wK S K κ i).map W.int)]):=.one;generalize e:B++[O.lst ((wK S K κ i).map W.int)]=a at x1;have J:qd 9 (jW (qy 1 [1,4,8] (Jc (zh ql qw qT) (mQ qf (zN zQ))) (zM 0) qH (qe (zh zD (zh zD (zh zD zG zH) qv) zQ)))) (fi p2 T x3 κ x5 row (bO g) (iO i) x9 x10) B=.ok (.nx (fi p2 T x3 κ x5 row (bO g) (iO i) (rO B.length) x10)) a:=by
  refine((qi (yZ L)).trans ?_);rw[e]
  rfl
 have Q:a[B.length]? =some (.lst ((wK S K κ i).map W.int)):=by rw[<- e];exact qB
 have E:zh yi (mQ gq (zN (zh ql Qe (qA (zi qG zr))))) qG (fi p2 T x3 κ x5 row (bO g) (iO i) (rO B.length) x10) a=.ok (.bl (decide (kJ (wK S K κ i++[0])=0))) (a++[.lst [.int 0]]++[.lst ((wK S K κ i++[0]).map W.int)]):=by
  have a1:=(zB (zj (i:=9) (ρ:=fi p2 T x3 κ x5 row (bO g) (iO i) (rO B.length) x10) (A:=a) rfl) (jx (ws:=[.int 0]) (A1:=a) (zu zR zJ))).trans (JC (ju Q) qB (by rw[af,M];unfold zX;simp;lia))
  have a2:(wK S K κ i).map W.int++[.int 0]=(wK S K κ i++[0]).map W.int:=by rw[aN];rfl
  rw[a2]at a1;exact(zB ((jP (yc a1 (by unfold zI;dsimp only;rw[qB]))).trans (UW (by simp))) zR).trans (gz _ _ _)
 generalize q:a++[O.lst [.int 0]]++[O.lst ((wK S K κ i++[0]).map W.int)]=c at E;have x2:Ext B c:=by rw[<- q];exact x1.app.app
 have k2:=f.ext x2
 by_cases n:kJ (wK S K κ i++[0])=0
 ·rw[ax n]at E
  have I:=w9 (cap:=[1,4,6,8]) (mi:=j8 (zh ql qw qT)) (me:=zh qt (zh zD (zh zD (zh zD zG zH) qw) zQ) (zh zD qv zH)) (ρ:=fi p2 T x3 κ x5 row (bO g) (iO i) (rO B.length) x10) (A:=c) (N:=κ + 1) (j:=jQ 0 ((κ:Int)+1).toNat)
   (item:=λk=>.int (0+(k:Int))) (g:=λk=>.int (pS S k i κ * row.getD k 0)) (yI ((zB (zj rfl) zR).trans rfl) (Jx (by lia))) (by show((κ:Int)+1).toNat=_;lia) (by unfold zX;lia) (λk t=>ym (by lia)) (yj)
   (λk t=>by
    have pb:0<=pS S k i κ/\pS S k i κ < 100:=w.b (S.getD k []) (by rw[aa,ae (by rw[w.l];lia)];exact aK _) i κ
    rw[Int.zero_add];exact(zB (Sk w (k2.nu.ext k2.x) (zj rfl) (zj rfl) (zj rfl) (zj rfl) (by lia) (by lia) H) ((zB (zj rfl) (zj rfl)).trans (wC (by rw[r];exact t)))).trans yd)
  have em:((List.range (κ + 1)).map λk=>W.int (pS S k i κ * row.getD k 0))=((List.range (κ + 1)).map λk=>pS S k i κ * row.getD k 0).map W.int:=by rw[aW];rfl
  rw[em]at I;have Z:=(jP I).trans (K2 _);have X:wF wI (zh yi (zh qt (zh zD qL yS) (zh zD qL qw)) Y5) (fi p2 T x3 κ x5 row (bO g) (iO i) (rO B.length) (iV (Kr S κ i row))) c=.ok (.bl (g&&decide (row.getD i 0 * row.getD κ 0=Kr S κ i row))) c:=
   Wo (zj rfl) ((zB ((zB ((zB (zj rfl) (zj rfl)).trans (wC (by rw[r];lia))) ((zB (zj rfl) (zj rfl)).trans (wC (by rw[r];lia)))).trans (yd (by have:=u i;lia) (by have:=u i;lia))) (zj rfl)).trans (gz _ _ _))
  have ce:QP S K κ row i=decide (row.getD i 0 * row.getD κ 0=Kr S κ i row):=by
   unfold QP;rw[ax n]
   rfl
  refine⟨c,rO B.length,iV (Kr S κ i row),(zw J).trans ((zw ((yP E).trans ((zw ((qi Z).trans rfl)).trans ((zw ((qi X).trans rfl)).trans qC)))).trans ?_),x2⟩;rw[ce];exact qC
 ·rw[aE n]at E
  have ce:QP S K κ row i=true:=by
   unfold QP;rw[aE n]
   rfl
  refine⟨c,rO B.length,x10,(zw J).trans ((zw ((jK E).trans qC)).trans ?_),x2⟩;rw[ce,Bool.and_true];exact qC
def gd (S:List (bQ))(K a:Nat)(r:bR):Bool:=(List.range (a + 1)).all (QP S K a r)
def DR {p:Nat->Bool}(n:Nat):(List.range (n+1)).all p=((List.range n).all p&&p n):=by rw[bf,all_append];simp
def mv (w:Wf K S)(c:z.length=K)(l:Kb S z K p2 D B)(f:K<=8)(H:κ < K)(r:row.length=κ + 1)(d:∀v∈row,-100<v/\v<100){x3 x5 x8 x9 x10:Option W}:
  ∃C y8 Y y,jD (j8 (zh ql qw qT)) (zM 8) IB (fi p2 T x3 κ x5 row (bO true) x8 x9 x10) B=.ok (.nx (fi p2 T x3 κ x5 row (bO (gd S K κ row)) y8 Y y)) C/\Ext B C:=by
 obtain⟨a,C,e,y8,Y,y,rfl,x⟩:=yH (j:=jQ 0 ((κ:Int)+1).toNat) (st:=turn (zM 8) IB) (N:=κ + 1)
  (I:=λi o C=>∃y8 Y y,o=fi p2 T x3 κ x5 row (bO ((List.range i).all (QP S K κ row))) y8 Y y/\Ext B C)
  (λi o C n ⟨y8,Y,y,h,x⟩=>by
   subst h;obtain⟨D,b,Z,e,X⟩:=mu (T:=T) (x3:=x3) (x5:=x5) (x9:=Y) (x10:=y) (g:=(List.range i).all (QP S K κ row)) w c (l.ext x) f H r d (i:=i) (by lia)
   refine⟨.int (0+(i:Int)),_,D,ym (by lia),(jO (by rw[Int.zero_add];rfl)).trans e,iO i,b,Z,?_,x.trans X⟩
   rw[DR])
  (λo B _=>yj) (κ + 1) 0 (fi p2 T x3 κ x5 row (bO true) x8 x9 x10) B (by lia) ⟨x8,x9,x10,rfl,.refl⟩
 refine⟨C,y8,Y,y,(jy (yI (k:=(κ:Int)+1) ((zB (zj rfl) zR).trans rfl) (Jx (by lia)))).trans ?_,x⟩
 rw[show(jQ 0 ((κ:Int)+1).toNat).len=κ + 1 by show((κ:Int)+1).toNat=_;lia]
 exact e
def yN (v:Int)(r:bR):bQ:=(List.range (2 * v+1).toNat).map λ(d:Nat)=>r++[-v+(d:Int)]
def yW (S:List (bQ))(z:bR)(K:Nat):Nat->List (bR)
 |0=>[[1]]|m+1=>((yW S z K m).flatMap (yN (z.getD (m+1) 0))).filter (gd S K (m+1))
abbrev EB:Ex:=zy (yx (j4 JG jN (jW (qy 1 [6] (Jc (zh w5 qG (zh zD zQ qw)) (zh ql (zh zD zQ qw) qT)) (zM 0) qH (qe (zh ql zG (qP (zi zH zr)))))))) zV
abbrev RB:Ex:=zy (qd 7 qH) (zy (jD (j8 (zh ql qw qT)) (zM 8) IB) (zy (jB wI (zy (yx (j4 yk qv qL)) zV) zV) zV))
def Ek {k:Nat}{u:List W}(h:A[n]? =some (.lst ws))(a:A[k]? =some (.lst u))(H:ws.length+u.length<=zX):JG (.ref n) (.ref k) A=.ok .non (A.set n (.lst (ws++u))):=by unfold JG;dsimp only;rw[h,a];dsimp only;rw[ai H]
def Kq (p:Nat)(B C:Hx):Prop:=B.length<=C.length/\∀q,q<p->C[q]? =B[q]?
def Kq.kb {p:Nat}(h:Kb S z K p2 D B)(q:Kq p B C)(a:D.length<=p):Kb S z K p2 D C:=⟨h.nu,h.z_,TC (by have:=h.x.len;have:=q.1;lia) λi H=>(q.2 i (by lia)).trans (by obtain⟨l,e⟩:=h.x;rw[e];exact ah H)⟩
def mx (c:z.length=K)(H:Kb S z K p2 D B)(f:K<=8)(b:κ < K)(v:0<=z.getD κ 0/\z.getD κ 0<=8)(r:row.length<=8){p:Nat}{i:bQ}(a:B[p]? =some (.lst (i.map zo)))(q:i.length<50000){x3 x7 x8 x9 x10:Option W}:
  EB (fi p2 T x3 κ (rO p) row x7 x8 x9 x10) B=.ok (.nx (fi p2 T x3 κ (rO p) row x7 x8 x9 x10)) ((B++[O.lst ((yN (z.getD κ 0) row).map zo)]).set p (O.lst ((i++yN (z.getD κ 0) row).map zo))):=by
 have h:B[p2]? =some (.lst (z.map W.int)):=H.x.at H.z_;have e:zh zD zQ qw (fi p2 T x3 κ (rO p) row x7 x8 x9 x10) B=.ok (.int (z.getD κ 0)) B:=(zB (zj rfl) (zj rfl)).trans (wM h (int_at))
 have E:=w9 (cap:=[6]) (mi:=Jc (zh w5 qG (zh zD zQ qw)) (zh ql (zh zD zQ qw) qT)) (me:=zh ql zG (qP (zi zH zr))) (ρ:=fi p2 T x3 κ (rO p) row x7 x8 x9 x10) (A:=B) (N:=(2 * z.getD κ 0+1).toNat) (j:=jQ (0-z.getD κ 0) (z.getD κ 0+1-(0-z.getD κ 0)).toNat)
  (item:=λd=>.int (0-z.getD κ 0+(d:Int))) (g:=λd=>zo (row++[-z.getD κ 0+(d:Int)]))
  (Ta ((zB zR e).trans rfl) ((zB e zR).trans rfl) (Jx (by lia)) (Jx (by lia))) (by show(z.getD κ 0+1-(0-z.getD κ 0)).toNat=_;lia) (by unfold zX;lia) (λd n=>ym (by lia)) (yj)
  (λd n=>by
   refine(zB (zj rfl) (gG (zu (zj rfl) zJ))).trans ((KJ (by rw[af];simp;lia)).trans ?_)
   unfold zo;rw[aN,show 0-z.getD κ 0+(d:Int)=-z.getD κ 0+(d:Int) by lia]
   rfl)
 have o:((List.range (2 * z.getD κ 0+1).toNat).map λ(d:Nat)=>zo (row++[-z.getD κ 0+(d:Int)]))=(yN (z.getD κ 0) row).map zo:=by unfold yN;rw[aW];rfl
 rw[o]at E;have l:(yN (z.getD κ 0) row).length=(2 * z.getD κ 0+1).toNat:=by unfold yN;simp
 refine(zw (wW (w:=.non) ((ZC (zj rfl) a (yZ E)).trans ((Ek (ju a) qB (by rw[af,af,l];unfold zX;lia)).trans ?_)))).trans qC
 rw[aN]
def my (d:z.length=K)(n:Kb S z K p2 D B)(l:K<=8)(H:κ < K)(v:0<=z.getD κ 0/\z.getD κ 0<=8){p3 p5:Nat}{rs:bQ}(f:∀r∈rs,r.length<=8)(u:(rs.flatMap (yN (z.getD κ 0))).length<40000)(a:B[p3]? =some (.lst (rs.map zo)))(b:B[p5]? =some (.lst []))(t:D.length<=p3)(Q:p3<p5){x6 x7 x8 x9 x10:Option W}:
  ∃C y6,jD (qI qv) (zM 6) EB (fr p2 T (rO p3) (iO κ) (rO p5) x6 x7 x8 x9 x10) B=.ok (.nx (fr p2 T (rO p3) (iO κ) (rO p5) y6 x7 x8 x9 x10)) C/\C[p5]? =some (.lst ((rs.flatMap (yN (z.getD κ 0))).map zo))/\Kq p5 B C:=by
 have L:=j0 b;have M:∀m,((rs.take m).flatMap (yN (z.getD κ 0))).length<=(rs.flatMap (yN (z.getD κ 0))).length:=λm=>by
  have:rs.flatMap (yN (z.getD κ 0))=(rs.take m).flatMap (yN (z.getD κ 0))++(rs.drop m).flatMap (yN (z.getD κ 0)):=by rw[<- bP,take_append_drop]
  rw[this,au];lia
 obtain⟨c,C,e,y6,rfl,x,w⟩:=yH (j:=⟨λA i=>(zI (.ref p3) A).map λE=>E[i]?,(rs.map zo).length⟩) (st:=turn (zM 6) EB) (N:=rs.length)
  (I:=λm y C=>∃y6,y=fr p2 T (rO p3) (iO κ) (rO p5) y6 x7 x8 x9 x10/\C[p5]? =some (.lst (((rs.take m).flatMap (yN (z.getD κ 0))).map zo))/\Kq p5 B C)
  (λm y C J ⟨y6,h,x,w⟩=>by
   subst h;have p:C[p3]? =some (.lst (rs.map zo)):=(w.2 p3 Q).trans a;have o:=Kq.kb n w (by lia)
   have e:=mx (T:=T) (x3:=rO p3) (x7:=x7) (x8:=x8) (x9:=x9) (x10:=x10) (row:=rs[m]) d o l H v (f _ (aK J)) x (by have:=M m;lia)
   refine⟨zo rs[m],_,_,?_,(jO rfl).trans e,_,rfl,?_,?_,λq g=>?_⟩
   ·exact(kZ p).trans (by rw[ay,ae J];rfl)
   ·rw[take_succ J,bP]
    simp only[flatMap_cons,flatMap_nil,aX];exact av (by rw[au];have:=w.1;lia)
   ·rw[bF,au]
    have:=w.1
    lia
   ·rw[aw (by lia),ah (by have:=w.1;lia)]
    exact w.2 q g)
  (λy C ⟨y6,_,_,w⟩=>(kZ ((w.2 p3 Q).trans a)).trans (by rw[az (by simp)])) rs.length 0 (fr p2 T (rO p3) (iO κ) (rO p5) x6 x7 x8 x9 x10) B (by lia) ⟨x6,rfl,by rw[b];rfl,ao _,λ_ _=>rfl⟩
 rw[take_length]at x;refine⟨C,y6,(jy (Qq (zj rfl) a)).trans ?_,x,w⟩;rw[show(jA.len ⟨λA i=>(zI (.ref p3) A).map λE=>E[i]?,(rs.map zo).length⟩)=rs.length by simp]
 exact e
def mz (w:Wf K S)(d:z.length=K)(j:Kb S z K p2 D B)(i:K<=8)(a:κ < K)(r:row.length=κ + 1)(f:∀v∈row,-100<v/\v<100){p:Nat}{t:bQ}(b:B[p]? =some (.lst (t.map zo)))(A:t.length<40000){x5 x7 x8 x9 x10:Option W}:
  ∃C y8 Y y,RB (fi p2 T (rO p) κ x5 row x7 x8 x9 x10) B=.ok (.nx (fi p2 T (rO p) κ x5 row (bO (gd S K κ row)) y8 Y y)) C/\C[p]? =some (.lst ((t++[row].filter (gd S K κ)).map zo))/\B.length<=C.length/\∀q,q<B.length->q≠p->C[q]? =B[q]?:=by
 obtain⟨C,y8,Y,y,e,x⟩:=mv (T:=T) (x3:=rO p) (x5:=x5) (x8:=x8) (x9:=x9) (x10:=x10) w d j i a r f;have c:=x.at b;have n:=j0 b;have L:=x.len;have o:∀q,q<B.length->C[q]? =B[q]?:=λq h=>by obtain⟨l,rfl⟩:=x;exact ah h
 have E:qd 7 qH (fi p2 T (rO p) κ x5 row x7 x8 x9 x10) B=.ok (.nx (fi p2 T (rO p) κ x5 row (bO true) x8 x9 x10)) B:=rfl
 by_cases g:gd S K κ row=true
 ·rw[g]at e ⊢
  refine⟨C.set p (.lst ((t++[row]).map zo)),y8,Y,y,(zw E).trans ((zw e).trans ((zw ((yP (zj rfl)).trans ((zw (wW (w:=.non) ((ZC (zj rfl) c (zj rfl)).trans ((Df c (by rw[af];lia)).trans ?_)))).trans qC))).trans qC)),?_,by rw[bF];exact L,λq h u=>(aw (Ne.symm u)).trans (o q h)⟩
  ·rw[aN]
   rfl
  ·rw[av (by lia)]
   simp[g]
 ·have H:gd S K κ row=false:=by simpa using g
  rw[H]at e ⊢;refine⟨C,y8,Y,y,(zw E).trans ((zw e).trans ((zw ((jK (zj rfl)).trans qC)).trans qC)),?_,L,λq h _=>o q h⟩;rw[c];simp[H]
def mC (w:Wf K S)(d:z.length=K)(n:Kb S z K p2 D B)(l:K<=8)(H:κ < K){p3 p5:Nat}{rs:bQ}(f:∀r∈rs,r.length=κ + 1/\∀v∈r,-100<v/\v<100)(M:rs.length<40000)(b:B[p3]? =some (.lst []))(a:B[p5]? =some (.lst (rs.map zo)))(J:D.length<=p5)(Q:p5<p3){x6 x7 x8 x9 x10:Option W}:
  ∃C y6 y7 y8 Y y,jD (qI jN) (zM 6) RB (fr p2 T (rO p3) (iO κ) (rO p5) x6 x7 x8 x9 x10) B=.ok (.nx (fr p2 T (rO p3) (iO κ) (rO p5) y6 y7 y8 Y y)) C/\C[p3]? =some (.lst ((rs.filter (gd S K κ)).map zo))/\Kq p3 B C:=by
 have L:=j0 b;obtain⟨c,C,e,y6,y7,y8,Y,y,rfl,U,P⟩:=yH (j:=⟨λA i=>(zI (.ref p5) A).map λws=>ws[i]?,(rs.map zo).length⟩) (st:=turn (zM 6) RB) (N:=rs.length)
  (I:=λm X C=>∃y6 y7 y8 Y y,X=fr p2 T (rO p3) (iO κ) (rO p5) y6 y7 y8 Y y/\C[p3]? =some (.lst (((rs.take m).filter (gd S K κ)).map zo))/\Kq p3 B C)
  (λm X C hm ⟨y6,y7,y8,Y,y,h,U,P⟩=>by
   subst h;have u:C[p5]? =some (.lst (rs.map zo)):=(P.2 p5 Q).trans a;have t:=Kq.kb n P (by lia)
   obtain⟨k1,k2⟩:=f _ (aK hm);have lf:((rs.take m).filter (gd S K κ)).length<40000:=by have a1:=length_filter_le (gd S K κ) (rs.take m);have a2:=List.length_take_le m rs;lia
   obtain⟨D,E,x,Z,e,d1,p,o⟩:=mz (T:=T) (x5:=rO p5) (x7:=y7) (x8:=y8) (x9:=Y) (x10:=y) w d t l H k1 k2 U lf;refine⟨zo rs[m],_,D,?_,(jO rfl).trans e,_,_,_,_,_,rfl,?_,a4 P.1 p,λq g=>?_⟩
   ·exact(kZ u).trans (by rw[ay,ae hm];rfl)
   ·rw[d1,take_succ hm,filter_append]
   ·rw[o q (by have:=P.1;lia) (by lia)]
    exact P.2 q g)
  (λX C ⟨_,_,_,_,_,_,_,P⟩=>(kZ ((P.2 p5 Q).trans a)).trans (by rw[az (by simp)])) rs.length 0 (fr p2 T (rO p3) (iO κ) (rO p5) x6 x7 x8 x9 x10) B (by lia) ⟨x6,x7,x8,x9,x10,rfl,by rw[b];rfl,ao _,λ_ _=>rfl⟩
 rw[take_length]at U;refine⟨C,y6,y7,y8,Y,y,(jy (Qq (zj rfl) a)).trans ?_,U,P⟩;rw[show(jA.len ⟨λA i=>(zI (.ref p5) A).map λws=>ws[i]?,(rs.map zo).length⟩)=rs.length by simp]
 exact e
end
section
variable {S:List (bQ)}{z v:bR}{K κ k j m:Nat}{C:Hx}
def As {s:Int}(h:0<=s)(r:bR):yN s r=(ext s r).reverse:=by
 unfold yN ext dn;rw[aW];refine a9 (by simp;lia) λi H a=>?_
 have H:i<(2 * s+1).toNat:=by simpa using H
 rw[List.getElem_reverse];simp only[getElem_map,getElem_range,af,aF,Function.comp]
 congr 2
 lia
theorem UH {s:Int}(h:0<=s):∀L:bQ,L.reverse.flatMap (yN s)=(L.flatMap (ext s)).reverse
 |[]=>rfl|a::L=>by rw[bK,bP,UH h L,List.flatMap_singleton,As h,flatMap_cons,List.reverse_append]
theorem Xq (h:Zs K z):∀k,k<K->yW S z K k=(ZP (gd S K) z k).reverse
 |0,_=>rfl|k+1,H=>by have Z:=h.le H;show((yW S z K k).flatMap (yN (z.getD (k+1) 0))).filter (gd S K (k+1))=(((ZP (gd S K) z k).flatMap (ext (z.getD (k+1) 0))).filter (gd S K (k+1))).reverse;rw[Xq h k (by lia),UH (by lia),List.filter_reverse]
def mD (H:Zs K z)(d:k+1<K):((yW S z K k).flatMap (yN (z.getD (k+1) 0))).length<40000/\(∀r∈yW S z K k,r.length=k+1)/\∀r∈(yW S z K k).flatMap (yN (z.getD (k+1) 0)),r.length=k+1+1/\∀v∈r,-100<v/\v<100:=by
 have Z:=H.le d;have sh:=Jy (p:=gd S K) H k (by lia)
 rw[Xq H k (by lia),UH (by lia)]
 refine⟨?_,λr a=>(sh r (List.mem_reverse.mp a)).1,λr a=>?_⟩
 ·rw[length_reverse,Tc]
  have i:=UQ (p:=gd S K) H (k:=k) (by lia)
  have g:2 * (z.getD (k+1) 0).toNat+1<=17:=by lia
  exact Nat.lt_of_le_of_lt (bC i g) (by decide)
 ·obtain⟨x,b,w⟩:=List.mem_flatMap.mp (List.mem_reverse.mp a)
  obtain⟨v,c,rfl⟩:=YG.mp w;obtain⟨f,e,_⟩:=sh x b;have D:=(Xt).mp c
  refine⟨by rw[au,f];rfl,λu h=>?_⟩
  rcases cA.mp h with h|h
  ·have:=e u h;lia
  ·rw[cz.mp h];lia
def AN (w:Wf K S)(f:Full K S v)(h:κ < K):gd S K κ (v.take (κ + 1))=true:=by
 unfold gd;rw[aY];intro i H;have H:=cm.mp H;unfold QP
 by_cases a:kJ (wK S K κ i++[0])=0
 ·rw[ax a,Bool.not_true,Bool.false_or,aq,Yw H,Yw (by lia),f i κ (by lia) h]
  show _=sm (κ + 1) λk=>pS S k i κ * (v.take (κ + 1)).getD k 0;have e:K=(κ + 1)+(K-(κ + 1)):=by lia
  rw[e,Ts (K-(κ + 1)) λk j g=>?_]
  ·exact jZ λk h=>by rw[Yw h]
  ·have c:pS S k i κ<=kJ (wK S K κ i++[0]):=UY (bt _ (by unfold wK;exact cx.mpr ⟨k-(κ + 1),cm.mpr (by lia),by rw[show κ + 1+(k-(κ + 1))=k by lia]⟩))
   have d:=(w.b (S.getD k []) (by rw[aa,ae (by rw[w.l];lia)];exact aK _) i κ).1
   have:pS S k i κ=0:=by
    have:0<=pS S k i κ:=d
    lia
   rw[this,zero_mul]
 ·rw[aE a]
  rfl
def Ml (v:bR):(v.map W.int).map vI=v:=by rw[aW];exact List.map_id v
def mE (v:bR):(v.map W.int).all km=true:=by rw[all_map];exact cy.mpr λ_ _=>rfl
def Nj:Yf S K (zo v)=(decide (v.length=K)&&(decide (v.getD 0 0=1)&&yg S v)):=by show(decide ((v.map W.int).length=K)&&((v.map W.int).all km&&(decide (((v.map W.int).map vI).getD 0 0=1)&&yg S ((v.map W.int).map vI))))=_;rw[af,Ml,mE,Bool.true_and]
def mF (w:Wf K S)(h:Yf S K (zo v)=true):v.length=K/\v.getD 0 0=1/\Full K S v:=by rw[Nj,ak,ak,aq,aq]at h;exact⟨h.1,h.2.1,(UB w.l h.1).mp h.2.2⟩
def mG (w:Wf K S)(h:Wt K S z v):Yf S K (zo v)=true:=by
 rw[Nj,ax h.l,ax h.o,(UB w.l h.l).mpr h.f]
 rfl
def WN (S:List (bQ))(K:Nat)(r:bR):Bool:=Yf S K (zo r)
abbrev gS (S:List (bQ))(z:bR)(K:Nat):bQ:=(yW S z K (K-1)).filter (WN S K)
def mH (w:Wf K S)(H:Zs K z)(e:1<=K)(g:K=1->pS S 0 0 0=1):gS S z K=(yM S z (K-1)).reverse:=by
 unfold gS;rw[Xq H _ (by lia),List.filter_reverse]
 congr 1
 refine OU ((KI H _ (by lia)).filter _) (KI H _ (by lia)) λv=>?_
 rw[Nw H w.l e g,mem_filter]
 constructor
 ·rintro⟨n,j⟩
  obtain⟨_,_,_,d⟩:=Jy H (K-1) (by lia) v n
  obtain⟨A,a2,a⟩:=mF w j;exact⟨A,a2,λi c=>d i (by lia),a⟩
 ·intro h
  refine⟨?_,mG w h⟩
  have:=TQ (p:=gd S K) H (λk b=>AN w h.f (by lia)) h (K-1) (by lia)
  rwa[aZ (by have:=h.l;lia)]at this
def mI {K:bQ}(h:K.Pairwise λa b=>yv a b=true):WA K=true:=by
 unfold WA;rw[aY];intro a H;have H:=cm.mp H;cases a with
 |zero=>rfl|succ a=>
  have e:=Uy _ _ (List.pairwise_iff_getElem.mp h a (a+1) (by lia) H (by lia))
  rw[aa,ae H,aa,Nat.add_sub_cancel,ae (by lia)]
  show(_ || !yv K[a+1] K[a])=true;rw[e]
  rfl
theorem Nf:∀{l:bQ},(∀k∈l,k≠[])->QF (l.map zo)=some l
 |[],_=>rfl|x::l,h=>by
  show(match intsOf (x.map W.int) with|some k=>if k=[] then none else(QF (l.map zo)).map (k::·)|none=>none)=_
  rw[KA];dsimp only;rw[aj (h x (aG ..)),Nf λk H=>h k (aA _ H)]
  rfl
def An (H:v.length<=100)(b:Bg v):L6 A (zo v):=.inl ⟨v.map W.int,rfl,by rw[af];exact H,λx h=>by obtain⟨i,_,rfl⟩:=cx.mp h;exact⟨rfl,.int,λ_=>rfl⟩,by rw[Ml];exact b⟩
abbrev KBd:Ex:=zy (qd 5 (qA zr)) (zy (jD (qI qv) (zM 6) EB) (zy (qd 3 (qA zr)) (zy (jD (qI jN) (zM 6) RB) zV)))
def mK (d:Dt t K S z)(sh:∀a b,a<t.length->b<t.length->jo t K a b=S.getD (at2 t a b).toNat [])(h1:K=1->pS S 0 0 0=1)(J:(yM S z (K-1)).length<64):∃n B,RJ [zm t] []=.ok (.ref n) B/\B[n]? =some (.lst ((yM S z (K-1)).map zo)):=by
 have w:=d.wf;have p:=d.zs.l;have k1:=d.k1;have k8:=d.k8;have zb:∀i,i<K->0<=z.getD i 0/\z.getD i 0<=8:=λi hi=>by have:=d.zs.le hi;lia
 obtain⟨f,en,_,nB⟩:=M6 d.tab d.kd sh [];have L:Ud [zm t] f=.ok (.ref f.length) (f++[.lst (z.map W.int)]):=d.zf f;have kb:Kb S z K f.length (f++[.lst (z.map W.int)]) (f++[.lst (z.map W.int)]):=⟨nB.ext .one,qB,.refl⟩;generalize f.length=p2 at L kb;generalize hD:f++[O.lst (z.map W.int)]=g at L kb;obtain⟨ρ',B,e,p3,x4,x5,x6,x7,x8,x9,x10,rfl,Q,g1,g2⟩:=yH (j:=jQ 1 (((z.map W.int).length:Int)-1).toNat) (st:=turn (zM 4) KBd) (N:=K-1)
  (I:=λm ρ B=>∃p3 x4 x5 x6 x7 x8 x9 x10,ρ=fr p2 (zm t) (rO p3) x4 x5 x6 x7 x8 x9 x10/\g.length<=p3/\B[p3]? =some (.lst ((yW S z K m).map zo))/\Kb S z K p2 g B)
  (λm ρ B hm ⟨p3,x4,x5,x6,x7,x8,x9,x10,x,Q,g1,g2⟩=>by
   subst x;have l3:=j0 g1;obtain⟨b2,b3,b4⟩:=mD (S:=S) d.zs (k:=m) (by lia)
   obtain⟨C,y6,e1,c5,cq⟩:=my (T:=zm t) (κ:=m+1) (p3:=p3) (p5:=B.length) (B:=B++[O.lst []]) (rs:=yW S z K m) (x6:=x6) (x7:=x7) (x8:=x8) (x9:=x9) (x10:=x10) p (g2.ext .one) k8 (by lia) (zb _ (by lia)) (λr h=>by rw[b3 r h];lia) b2 (ju g1) qB Q l3
   have ck:Kb S z K p2 g C:=Kq.kb (g2.ext .one) cq (by lia)
   have l5:=j0 c5;obtain⟨D,y,y7,y8,y9,Y,M,d3,dq⟩:=mC (T:=zm t) (κ:=m+1) (p3:=C.length) (p5:=B.length) (B:=C++[O.lst []]) (rs:=(yW S z K m).flatMap (yN (z.getD (m+1) 0))) (x6:=y6) (x7:=x7) (x8:=x8) (x9:=x9) (x10:=x10) w p (ck.ext .one) k8 (by lia) (λr h=>b4 r h) b2 qB (ju c5) (by lia) l5
   refine⟨.int (1+(m:Int)),fr p2 (zm t) (rO C.length) (iO (m+1)) (rO B.length) y y7 y8 y9 Y,D,ym (by rw[af,p];lia),?_,C.length,_,_,_,_,_,_,_,rfl,by lia,d3,Kq.kb (ck.ext .one) dq (by lia)⟩
   rw[show(1:Int)+(m:Int)=((m+1:Nat):Int) by lia]
   exact(jO rfl).trans ((zw ((qi (jx zJ)).trans rfl)).trans ((zw e1).trans ((zw ((qi (jx zJ)).trans rfl)).trans ((zw M).trans qC)))))
  (λρ B _=>yj (by rw[af,p];lia)) (K-1) 0 (fr p2 (zm t) (rO g.length) none none none none none none none) (g++[O.lst [zo [1]]]) (by lia)
  ⟨_,_,_,_,_,_,_,_,rfl,ao _,qB,kb.ext .one⟩
 have U:=Xq (S:=S) d.zs (K-1) (by lia)
 have fl:(yW S z K (K-1)).length<=2187:=by rw[U,length_reverse];exact UQ d.zs (by lia)
 have fs:∀r∈yW S z K (K-1),r.length=K/\Bg r:=λr h=>by
  rw[U]at h;obtain⟨s1,s2,_⟩:=Jy d.zs (K-1) (by lia) r (List.mem_reverse.mp h)
  exact⟨by lia,OF λv hv=>by have:=s2 v hv;lia⟩
 obtain⟨ρ2,c2,q,Z,x2,rfl,_⟩:=Ys (nl:=1) (cap:=[0]) (mi:=qI qv) (ρ:=fr p2 (zm t) (rO p3) x4 x5 x6 x7 x8 x9 x10) (A:=B) (tw:=zM 0) (ifs:=zP Yh (zi zG (zi zH zr))) (em:=qe zH) (N:=(yW S z K (K-1)).length)
  (I:=λk ρ c C=>Ext B C/\c=(((yW S z K (K-1)).take k).filter (WN S K)).map zo/\∃P,ρ=[P,some (zm t)]) (Qq (zj rfl) g1) (by rw[af])
  (λk ρ c C H ⟨x1,M,P,e3⟩=>by
   subst M e3;obtain⟨r1,r2⟩:=fs _ (aK H);obtain⟨C2,ea,xa⟩:=mn (A:=C) w d.tab d.kd sh (An (v:=(yW S z K (K-1))[k]) (by lia) r2)
   have E:zP Yh (zi zG (zi zH zr)) [some (zo (yW S z K (K-1))[k]),some (zm t)] C=.ok (.bl (WN S K (yW S z K (K-1))[k])) C2:=(zT (zu (ma:=zG) (zj rfl) (zu (ma:=zH) (zj rfl) zJ))).trans ea;refine⟨zo (yW S z K (K-1))[k],[some (zo (yW S z K (K-1))[k]),some (zm t)],(kZ (x1.at g1)).trans (by rw[ay,ae H];rfl),rfl,?_⟩
   have X:=x1.trans xa;cases hf:WN S K (yW S z K (K-1))[k] with
   |true=>
    rw[hf]at E;refine .inl ⟨_,_,_,_,E,YB (zj rfl) ?_,X,?_,_,rfl⟩
    ·rw[af]
     have:=length_filter_le (WN S K) ((yW S z K (K-1)).take k)
     rw[a6]at this;unfold zX;lia
    ·rw[take_succ H,filter_append,aN,List.filter_cons_of_pos hf,filter_nil];rfl
   |false=>
    rw[hf]at E;refine .inr ⟨_,E,X,?_,_,rfl⟩;rw[take_succ H,filter_append,List.filter_cons_of_neg (by rw[hf];decide),filter_nil,aX])
  (λρ c C ⟨x1,_⟩=>(kZ (x1.at g1)).trans (by rw[az (by rw[af];exact ao _)]))
  ⟨.refl,by rw[take_zero];rfl,_,rfl⟩
 rw[aZ (ao _)]at Z;have e7:=yZ Z;have u:=mH w d.zs k1 h1;have tk:QF ((gS S z K).map zo)=some (gS S z K):=Nf λk H e=>by
  have:=(fs k (List.mem_filter.mp H).1).1
  rw[e]at this;simp at this;lia
 have e6:Xn (.ref q.length) (q++[O.lst ((gS S z K).map zo)])=.ok (.ref (q++[O.lst ((gS S z K).map zo)]).length) (q++[O.lst ((gS S z K).map zo)]++[O.lst ((gS S z K).map zo)]):=by unfold Xn;dsimp only;rw[qB];dsimp only;rw[tk];dsimp only;rw[ai ⟨by rw[u,length_reverse];exact J,mI (by rw[u,List.pairwise_reverse];exact KI d.zs _ (by lia))⟩]
 generalize hB3:q++[O.lst ((gS S z K).map zo)]=o at e6 e7;have e5:Se (TH (jW (qy 1 [0] (qI qv) (zM 0) (zP Yh (zi zG (zi zH zr))) (qe zH)))) (gE J7 qT) (fr p2 (zm t) (rO p3) x4 x5 x6 x7 x8 x9 x10) B=.ok (.ref (o++[O.lst ((gS S z K).map zo)]).length) (o++[O.lst ((gS S z K).map zo)]++[.lst ((yM S z (K-1)).map zo)]):=by
  unfold Se TH;rw[e7,zK,e6,zK];show(match (o++[O.lst ((gS S z K).map zo)])[o.length]? with|some (.lst ws)=>_|_=>_)=_
  rw[qB];show R.ok _ (_++[O.lst ((gS S z K).map zo).reverse])=_;rw[u,List.map_reverse,List.reverse_reverse]
 refine⟨(o++[O.lst ((gS S z K).map zo)]).length,o++[O.lst ((gS S z K).map zo)]++[.lst ((yM S z (K-1)).map zo)],qV ?_,qB⟩;dsimp only[VC,mq];refine(zw (Np (gG (zu ((zT (zu (zj rfl) zJ)).trans en) (zu ((zT (zu (zj rfl) zJ)).trans L) zJ))) rfl)).trans ?_;refine(zw (ρ1:=fr p2 (zm t) (rO g.length) none none none none none none none) (A1:=g++[O.lst [zo [1]]]) ((qi (jx (zu (gG (zu zR zJ)) zJ))).trans rfl)).trans ?_;refine(zw ((jy (Ta (i:=1) (j:=((z.map W.int).length:Int)) zR (ZD rfl (ju kb.z_)) (by decide) (Jx (by rw[af];lia) (by rw[af];lia)))).trans ?_)).trans (qk (qN e5))
 rw[show(jQ 1 (((z.map W.int).length:Int)-1).toNat).len=K-1 by show(((z.map W.int).length:Int)-1).toNat=_;rw[af,p];lia]
 exact e
def mL (d:Dt t K S z)(sh:∀a b,a<t.length->b<t.length->jo t K a b=S.getD (at2 t a b).toNat [])(H:K=1->pS S 0 0 0=1)(h:(yM S z (K-1)).length<64)(A:Hx):Jq [zm t] A=.ok (.ref A.length) (A++[.lst ((yM S z (K-1)).map zo)]):=by obtain⟨n,B,E,e⟩:=mK d sh H h;exact G0 (Zr t) E e (Qo JH _)
end
section
variable {K:Nat}
structure Tb (t:bQ)(K:Nat):Prop where
 d:Dt t K (SL t K) (qu t K)
 s:jz t
def Tb.sh (h:Tb t K):∀a b,a<t.length->b<t.length->jo t K a b=(SL t K).getD (at2 t a b).toNat []:=Wk h.d.tab h.s h.d.kd
def Tb.al (h:Tb t K)(H:(Rw t K).length<64)(A:Hx):Jq [zm t] A=.ok (.ref A.length) (A++[.lst ((Rw t K).map zo)]):=mL h.d h.sh (Lx h.d.tab h.s h.d.kd) H A
def M5 (d:i<12){p o:bW}(H:p.Perm (List.range (qb (bT i)-1).toNat))(a:o.Perm (List.range (bT i).length)):∃K,Tb (wD (bT i) p o) K/\((Rw (wD (bT i) p o) K).length=K↔i<9)/\(i<9->Or (wD (bT i) p o) K):=by
 obtain⟨B,b,g,f⟩:=Sn d;have h:=lK B g H a;have su:=FZ B H a b;have e:(Rw (wD (bT i) p o) (qb (bT i)).toNat).length=(qb (bT i)).toNat↔i<9:=by rw[<- f,<- (U2 h b su).length_eq,af]
 exact⟨_,⟨lI h.ht su h.kt,su⟩,e,λc=>(lQ (l9 c) h b su).elim (·.2) λq=>absurd (e.mpr c) q.1⟩
def mM (A:Hx):Kx [.int 5] A=.ok (zm (bT 0)) A:=gf rfl (by decide +kernel) A
def mO (A:Hx):Qh [.int 6] A=.ok (zm (bT 1)) A:=gf rfl (by decide +kernel) A
def mP (A:Hx):R3 [.int 2,.int 3] A=.ok (zm (bT 3)) A:=gf rfl (by decide +kernel) A
def mR (A:Hx):RY [.int 3] A=.ok (zm (bT 4)) A:=gf rfl (by decide +kernel) A
def mS (A:Hx):R9 [.int 4] A=.ok (zm (bT 6)) A:=gf rfl (by decide +kernel) A
def mT (A:Hx):RT [zm (gW 2),zm (gW 3)] A=.ok (zm (bT 7)) A:=gf rfl (by decide +kernel) A
def mU (A:Hx):R1 [zm (gW 2),zm (bT 2)] A=.ok (zm (bT 8)) A:=gf rfl (by decide +kernel) A
def mV (A:Hx):Qh [.int 5] A=.ok (zm (bT 9)) A:=gf rfl (by decide +kernel) A
def mW (A:Hx):Qh [.int 7] A=.ok (zm (bT 10)) A:=gf rfl (by decide +kernel) A
abbrev n6:List W:=[zm (bT 0),zm (bT 1),zm (bT 2),zm (bT 3),zm (bT 4),zm (bT 5)]
abbrev n3:List W:=[zm (bT 6),zm (bT 7),zm (bT 8)]
def Az (s:qS n A):∃t K o,Tb t K/\(Rw t K).length=K/\Or t K/\Yj [.ref n] A=.ok (zm t) (A.set n o)/\qS n (A.set n o):=by
 obtain⟨x,b,c,j,B⟩:=s;have J:=j0 c;obtain⟨r,a,C,d,D,I⟩:=YN (n:=0) (A:=[.lst [.int x,.bl b]]) ⟨x,b,rfl,j,B⟩ (m:=9) (by decide) (by decide)
 obtain⟨i,rfl⟩:=a5 d;have H:i<9:=by lia
 have S:qS 0 [a,.lst n6,.lst n3,.lst (n6++n3)]:=by obtain⟨y,z,Q,q⟩:=I;exact⟨y,z,Q,q⟩
 obtain⟨p,o,f,E,⟨y,z,Q,q,e⟩,l,u⟩:=OK (Sn (i:=i) (by lia)).1 S
 obtain⟨K,T,v,g⟩:=M5 (i:=i) (by lia) l u
 refine⟨_,K,.lst [.int y,.bl z],T,v.mpr H,g H,?_,y,z,av J,q,e⟩;refine G6 (A1:=[a,.lst n6,.lst n3,.lst (n6++n3)].set 0 f) c rfl ?_ Q (ZZ _);refine qV ?_;dsimp only[VJ,mq];refine(zw (ρ1:=[rO 0,iO i,none]) (A1:=[a]) (qi ((zT (zu (zj rfl) (zu zR zJ))).trans C))).trans ?_;refine(zw (ρ1:=[rO 0,iO i,rO 1]) (A1:=[a,.lst n6]) (qi (jx (ws:=n6) (zu (c1 zR (mM _)) (zu (c1 zR (mO _)) (zu (c1 zR (LH _)) (zu (c2 zR zR (mP _)) (zu (c1 zR (mR _)) (zu (c1 zR (mf _)) zJ))))))))).trans ?_;refine(zw (ρ1:=[rO 0,iO i,rO 3]) (A1:=[a,.lst n6,.lst n3,.lst (n6++n3)]) (qi ((zB (zj rfl) (jx (ws:=n3) (A1:=[a,.lst n6]) (zu (c1 zR (mS _)) (zu (c2 (c1 zR (LV _)) (c1 zR (md _)) (mT _)) (zu (c2 (c1 zR (LV _)) (c1 zR (LH _)) (mU _)) zJ))))).trans (JC rfl rfl (by decide))))).trans ?_
 refine qk (qN ((zT (zu (zj rfl) (zu ((zB (zj rfl) (zj rfl)).trans (wM (s:=i) rfl (w:=zm (bT i)) ?_)) zJ))).trans E))
 match i,H with
 |0,_=>rfl|1,_=>rfl|2,_=>rfl|3,_=>rfl|4,_=>rfl|5,_=>rfl|6,_=>rfl|7,_=>rfl|8,_=>rfl
 |i+9,h=>exact absurd h (by lia)
def mX (h:i<12)(b:¬i<9)(s:qS n A):∃t K o,Tb t K/\(Rw t K).length≠K/\Zx [.ref n,zm (bT i)] A=.ok (zm t) (A.set n o)/\qS n (A.set n o):=by obtain⟨p,q,o,e,S,a,H⟩:=OK (Sn h).1 s;obtain⟨K,T,l,_⟩:=M5 h a H;exact⟨_,K,o,T,λz=>b (l.mp z),e,S⟩
variable {w:W}
def rw_T (h:Tb t K)(H:(Rw t K).length=K)(A:Hx):Yi [zm t] A=.ok .non (A++[.lst ((Rw t K).map zo)]):=by refine UZ (ρ:=[some (zm t)]) ?_;dsimp only[Ku];have e:=NY h.d A;rw[ax H]at e;exact(zw ((jK (kR ((zT (zu (zj rfl) zJ)).trans e))).trans qC)).trans qC
def rw_X (h:Tb t K)(H:(Rw t K).length≠K)(A:Hx):Yi [zm t] A=.exc "NotWhole" (A++[.lst ((Rw t K).map zo)]):=by refine QZ ?_;dsimp only[Ku];have e:=NY h.d A;rw[aE H]at e;exact g8 ((yP (kR ((zT (zu (zj rfl) zJ)).trans e))).trans (g8 rfl))
def rw_E (h:QT [w] A=.exc x A1):Yi [w] A=.exc x A1:=by
 refine QZ ?_;dsimp only[Ku];have e:VF [w] A=.exc x A1:=by refine QZ ?_;dsimp only[W3];exact g8 (UX ((zT (zu (zj rfl) zJ)).trans h))
 refine g8 ?_;unfold jB kh;rw[(zT (zu (zj rfl) zJ)).trans e]
 rfl
end
def two_N {j:Nat}(h:jM (.ref j) A=some .lst):Jp A (.tup [.tup [.int 0,.int 1],.ref j]):=λB k=>by
 unfold gF Gu;refine qV ?_;dsimp only[KD,mq];have H:=k _ _ h;have e:ZA [.ref j,.int 2] B=.ok (.bl false) B:=by unfold ZA KC;refine qV ?_;dsimp only[Yr,mq];exact qk (qN (JJ ((QD (zj rfl) H).trans rfl)))
 have b:QU [.ref j,.int 2,.int 2] B=.ok (.bl false) B:=by unfold QU VE;refine qV ?_;dsimp only[WX,mq];exact qk (qN (JJ ((zT (ws:=[.ref j,.int 2]) (A1:=B) rfl).trans e)))
 have a:QU [.tup [.int 0,.int 1],.int 2,.int 2] B=.ok (.bl true) B:=by kernel_rfl
 have E:=Yy (cap:=[1]) (A:=B) (ρ:=[some (.tup [.tup [.int 0,.int 1],.ref j]),iV 2]) (ws:=[.tup [.int 0,.int 1],.ref j]) (me:=zP QU (zi zH (zi zG (zi zG zr)))) (g:=λw=>match w with|.tup _=>.bl true|_=>.bl false) (zj (i:=0) rfl) (by simp[zX]) (λw c=>by
  rcases cw.mp c with rfl|c
  ·exact(zT (A1:=B) rfl).trans a
  ·rw[cz.mp c]
   exact(zT (ws:=[.ref j,.int 2,.int 2]) (A1:=B) rfl).trans b)
 refine(zw (ρ1:=[some (.tup [.tup [.int 0,.int 1],.ref j]),none]) (A1:=B) rfl).trans ((zw (ρ1:=[some (.tup [.tup [.int 0,.int 1],.ref j]),iV 2]) (A1:=B) rfl).trans ?_);exact qk ((yP (kR (k:=false) ((jP E).trans rfl))).trans (qk (qN zR)))
def Kg (f:Fn)(u:List W)(l:List W):Option (List W):=match f (.ref 0::u) [.lst l] with
 |.ok _ A=>(match (List.head? A:Option O) with|some (.lst l2)=>some l2|_=>none)
 |_=>none
set_option tactic.hygienic true in
def UI {f:Fn}{us:List W}{l:List W}{v:W}(a:A[n]? =some (.lst l))(h:wj f (.ref n::us) A=.ok v B):∃L,Kg f us l=some L/\B=A.set n (.lst L)/\qQ L=true:=by
 unfold wj at h;dsimp only at h;rw[a]at h;dsimp only at h
 split at h
 ·unfold Kg
  split at h
  ·rename_i w c e
   try (rw[e];dsimp only)
   split at h
   ·rename_i b E
    split at h
    ·rename_i H
     rw[ak]at H;cases h;exact⟨b,by first|rw[E]|rfl,rfl,H.1⟩
    ·cases h
   ·cases h
  ·cases h
 ·cases h
section
variable {k:Nat}{q:Hx->W->Prop}{l:List W}
def Cs {r:Nat}{b:Hx}{m:Int}{mm:Ev}(s:qS n A)(a:A[n]? =some (.lst l))(t:TL q A r k B)(x:me ρ b=.ok (.ref r) B)(u:ρ[0]? =some (rO n))(p:∀A,mm ρ A=.ok (.int m) A)(g:(k:Int)=m)(y:0<m)(I:m<1000):∃w C,zh zD me (zP jq (zi zH (zi mm zr))) ρ b=.ok w C/\Qk q C w/\Kn n A C/\∃L,Kg QW [.int m] l=some L/\C[n]? =some (.lst L):=by
 obtain⟨o,e,d,v⟩:=t.at_;have sB:=s.ext t.ext;obtain⟨j,C,E,i,K,_⟩:=B9 sB u (p B) y (by lia)
 have h:j<o.length:=by lia
 have H:r≠n:=by have:=s.lt;have:=t.nw;lia
 have c:=(zT (f:=jq) (zu (zj u) (zu (p B) zJ))).symm.trans E;obtain⟨L,D,z,_⟩:=UI (f:=QW) (us:=[.int m]) (t.ext.at a) c;refine⟨o[j],C,(zB x E).trans (wM (K.kp.get e H) (ae h)),(v _ (aK h)).mono (K.ky sB),(Kn.ext s t.ext).trans K,L,D,?_⟩;rw[z];exact av sB.lt
end
def MK {l:List W}(s:qS n A)(h:A[n]? =some (.lst l)):∃w B,Jr [.ref n] A=.ok w B/\Jp B w/\Kn n A B/\∃L,Kg QW [.int 15] l=some L/\B[n]? =some (.lst L):=by
 unfold Jr RK;dsimp only[VG,mq];have E:∀j,ET (λB w=>gF [w] B=.ok (.bl false) B) A (qA (zi (qP (zi qG (zi qT zr))) (zi (qP (zi qT (zi qG zr))) zr))) j:=λj A _=>⟨_,_,jx (zu (gG (zu zR (zu zR zJ))) (zu (gG (zu zR (zu zR zJ))) zJ)),Ext.one,MV NV (by decide)⟩
 have e:∀j,ET (λB w=>gF [w] B=.ok (.bl false) B) A (qP (zi (qP (zi qG (zi qT zr))) (zi (qA (zi qT (zi qG zr))) zr))) j:=λj A _=>⟨_,_,gG (zu (gG (zu zR (zu zR zJ))) (zu (jx (zu zR (zu zR zJ))) zJ)),Ext.one,two_N NV⟩;obtain⟨a,g,d,T⟩:=NH (k:=8) (ρ:=[rO n,none]) (yO (Zd (m:=gU) (λ_=>rfl)) (yO (Zd (m:=qG) (λ_=>rfl)) (yO (Zd (m:=qP zr) (w:=.tup []) (λ_=>rfl)) (yO (Zd (m:=qP (zi (qP (zi qT zr)) zr)) (w:=.tup [.tup [.int 1]]) (λ_=>rfl)) (yO (Zd (m:=qP (zi (qP (zi qG (zi qT zr))) (zi (qP (zi qT (zi qG zr))) (zi (qP (zi qG (zi qG zr))) zr)))) (w:=.tup [.tup [.int 0,.int 1],.tup [.int 1,.int 0],.tup [.int 0,.int 0]]) (λ_=>rfl))
  (yO (Zd (m:=qP (zi (qP (zi qG (zi Jn zr))) (zi (qP (zi Jn (zi qG zr))) zr))) (w:=.tup [.tup [.int 0,.int 2],.tup [.int 2,.int 0]]) (λ_=>rfl)) (yO (Zd (m:=qP (zi (qP (zi qG (zi qT zr))) (zi (qP (zi Jn (zi qG zr))) zr))) (w:=.tup [.tup [.int 0,.int 1],.tup [.int 2,.int 0]]) (λ_=>rfl)) (yO (E _) Tj))))))))
 obtain⟨r,f,c,t⟩:=i8 (k:=7) (i:=1) (ρ:=[rO n,rO a]) T (yO (Zd (m:=qP (zi (qP (zi qG (zi qG zr))) (zi (qP (zi qG (zi qG zr))) zr))) (w:=.tup [.tup [.int 0,.int 0],.tup [.int 0,.int 0]]) (λ_=>rfl)) (yO (Zd (m:=qP (zi (qP (zi qG (zi qH zr))) (zi (qP (zi qH (zi qG zr))) zr))) (w:=.tup [.tup [.int 0,.bl true],.tup [.bl true,.int 0]]) (λ_=>rfl)) (yO (e _)
  (yO (Zd (m:=qP (zi (qP (zi qG (zi qT zr))) zr)) (w:=.tup [.tup [.int 0,.int 1]]) (λ_=>rfl)) (yO (Zd (m:=zW (.str "01/10")) (λ_=>rfl)) (yO i7 (yO (Zd (m:=zh JV (qP (zi (zh JV (qP (zi qG zr)) Rv) zr)) Rv) (w:=.tup (List.replicate 9 (.tup (List.replicate 9 (.int 0))))) (λ_=>rfl)) Tj))))))) rfl (by lia)
 obtain⟨w,C,b,H,K,L,p,o⟩:=Cs (me:=zG) (ρ:=[rO n,rO r]) (mm:=zW (.int 15)) (m:=15) s h t (zj rfl) rfl (λ_=>rfl) rfl (by decide) (by decide)
 refine⟨w,C,qV ?_,H,K,L,p,o⟩;exact(zw ((qi d).trans rfl)).trans ((zw ((qi c).trans rfl)).trans (qk (qN b)))
def Yg (m a b:Nat):bQ:=(List.range m).map λi=>(List.range m).map λj=>if i=j then 0 else if (i=a/\j=b)∨(i=b/\j=a) then 2 else 1
def gx:List (Nat×Nat×Nat):=[4,5,6,7,8].flatMap λm=>(List.range m).flatMap λa=>(List.range (m-1)).map λx=>(m,a,x)
abbrev Zp (q:Nat×Nat×Nat):Nat:=(q.2.1+1+q.2.2)%q.1
def Rp:R W->Bool
 |.ok (.tup ws) _=>qQ ws|_=>false
set_option tactic.hygienic true in
def Ab {f:Fn}{u:List W}(H:qQ u=true)(h:Rp (f u [])=true):∃ws,∀A,iso f u A=.ok (.tup ws) A:=by
 unfold Rp at h
 split at h
 ·rename_i ws B e
  exact⟨ws,λA=>ZF H h e⟩
 ·cases h
def Zj (q:Nat×Nat×Nat):Bool:=Vb (Yg q.1 q.2.1 (Zp q))&&Rp (RP [zm (Yg q.1 q.2.1 (Zp q))] [])
def mY:((dq 16 0 gx).take 16).all Zj=true:=by decide +kernel
def mZ:((dq 16 1 gx).take 16).all Zj=true:=by decide +kernel
def m3:((dq 16 2 gx).take 16).all Zj=true:=by decide +kernel
def m4:((dq 16 3 gx).take 16).all Zj=true:=by decide +kernel
def m5:((dq 16 4 gx).take 16).all Zj=true:=by decide +kernel
def m6:((dq 16 5 gx).take 16).all Zj=true:=by decide +kernel
def m7:((dq 16 6 gx).take 16).all Zj=true:=by decide +kernel
def m8:((dq 16 7 gx).take 16).all Zj=true:=by decide +kernel
def m9:((dq 16 8 gx).take 16).all Zj=true:=by decide +kernel
def nc:((dq 16 9 gx).take 16).all Zj=true:=by decide +kernel
def nh:gx.all Zj=true:=wA (n:=16) (k:=0) mY (wA mZ (wA m3 (wA m4 (wA m5 (wA m6 (wA m7 (wA m8 (wA m9 (wA nc rfl)))))))))
def Rz:Ex:=zy (YS gQ Jn (zh zD zQ qv) qw) (zy (YS gQ Jn (zh zD zQ qw) qv) (zy (wG (mQ jS (qy 1 [] (qI zQ) (zM 0) qH (qe (mQ jS (zN zH)))))) zV))
def Qd (m:Nat)(o:O):Hx:=[o]++((gW m).map λr=>O.lst (r.map W.int))++[O.lst ((List.range (gW m).length).map λi=>W.ref ([o].length+i))]
def Ru (a:W):R Fl->Option O
 |.ok (.rt w) (o::_)=>if w.beq a then some o else none|_=>none
def ni (o:O):gx.map (λq=>Ru (zm (Yg q.1 q.2.1 (Zp q))) (Rz [rO 0,iV q.1,rO (q.1+1),iV q.2.1,iV (Zp q:Int)] (Qd q.1 o)))=List.replicate 160 (some o):=by kernel_rfl
def nj:(([4,5,6,7,8]:bW).all λ(m:Nat)=>Rn (Pg [.int m] []) (gW m))=true:=by kernel_rfl
def Te (m:Nat):(gW m).length=m:=GC
set_option tactic.hygienic true in
def nk {q:Nat×Nat×Nat}(a:q∈gx)(o:O):∃l,Rz [rO 0,iV q.1,rO (q.1+1),iV q.2.1,iV (Zp q:Int)] (Qd q.1 o)=.ok (.rt (zm (Yg q.1 q.2.1 (Zp q)))) (o::l):=by
 have h:=List.mem_map_of_mem (f:=λq=>Ru (zm (Yg q.1 q.2.1 (Zp q))) (Rz [rO 0,iV q.1,rO (q.1+1),iV q.2.1,iV (Zp q:Int)] (Qd q.1 o))) a;rw[ni o]at h;have e:=List.eq_of_mem_replicate h;unfold Ru at e
 split at e
 ·rename_i w c l b
  by_cases H:w.beq (zm (Yg q.1 q.2.1 (Zp q)))=true
  ·rw[ai H]at e
   cases e;rw[W.eq_of H]at b;exact⟨l,b⟩
  ·rw[aj H]at e;cases e
 ·cases e
section
def M7 (s:qS n A):∃t o,Yn [.ref n] A=.ok (zm t) (A.set n o)/\qS n (A.set n o)/\qm t/\∃ws,∀B,Kw [zm t] B=.ok (.tup ws) B:=by
 obtain⟨x,b,D,L,P⟩:=s;have hm:=j0 D;obtain⟨r,u,e1,J,rl,s1⟩:=YN (n:=0) (A:=[.lst [.int x,.bl b]]) ⟨x,b,rfl,L,P⟩ (m:=5) (by decide) (by decide)
 obtain⟨d,rfl⟩:=a5 J;have hd:d<5:=by lia
 have M:4+d∈[4,5,6,7,8]:=by
  have c:d=0∨d=1∨d=2∨d=3∨d=4:=by lia
  rcases c with rfl|rfl|rfl|rfl|rfl<;>decide
 generalize H:4+d=m at M;have X:∀B,Kx [.int m] B=.ok (zm (gW m)) B:=λB=>gf rfl (cy.mp nj m M) B;have s2:qS 0 (Qd m u):=by obtain⟨y,z,p,q⟩:=s1;exact⟨y,z,p,q⟩
 obtain⟨r2,v,Z,j,I,s3⟩:=YN s2 (m:=(m:Int)) (by lia) (by lia)
 obtain⟨a,rfl⟩:=a5 j;have g:qS 0 (Qd m v):=s3;obtain⟨r3,e,Y,h,E,s4⟩:=YN g (m:=(m:Int)-1) (by lia) (by lia)
 obtain⟨y,rfl⟩:=a5 h;have S:qS 0 (Qd m e):=s4;have w:(m,a,y)∈gx:=List.mem_flatMap.mpr ⟨m,M,List.mem_flatMap.mpr ⟨a,cm.mpr (by lia),cx.mpr ⟨y,cm.mpr (by lia),rfl⟩⟩⟩
 obtain⟨l,U⟩:=nk w e;have ht:=cy.mp nh _ w;unfold Zj at ht;rw[ak]at ht;obtain⟨h1,T⟩:=ht;have hT:=Nh h1;obtain⟨C,f,p,q,K⟩:=S;have Q:e=.lst [.int C,.bl f]:=by
  have:some e=some (O.lst [.int C,.bl f]):=p
  injection this
 refine⟨Yg m a (Zp (m,a,y)),.lst [.int C,.bl f],?_,⟨C,f,av hm,q,K⟩,hT,?_⟩
 ·refine G6 (us:=[]) (A1:=e::l) D rfl ?_ (by rw[Q];rfl) (ZZ _)
  refine qV ?_;dsimp only[VZ,mq];refine(zw (ρ1:=[rO 0,iO m,none,none,none]) (A1:=[u]) ((qi ((zB zR ((zT (zu (zj rfl) (zu zR zJ))).trans e1)).trans rfl)).trans ?_)).trans ?_
  ·rw[<- H]
   rfl
  refine(zw (ρ1:=[rO 0,iO m,rO (m+1),none,none]) (A1:=Qd m u) ((qi (EF (t:=gW m) (by rw[Te];lia) (λr N=>?_) ((zT (zu (zj rfl) zJ)).trans (X _)))).trans ?_)).trans ?_
  ·obtain⟨i,_,rfl⟩:=cx.mp N
   rw[Te];simp
  ·unfold Qd
   rw[Te,add_comm]
   rfl
  refine(zw (ρ1:=[rO 0,iO m,rO (m+1),iO a,none]) (A1:=Qd m v) ((qi ((zT (zu (zj rfl) (zu (zj rfl) zJ))).trans Z)).trans rfl)).trans ?_;refine(zw (ρ1:=[rO 0,iO m,rO (m+1),iO a,iV (Zp (m,a,y):Int)]) (A1:=Qd m e) ((qi ((zB ((zB ((zB (zj rfl) zR).trans rfl) ((zT (zu (zj rfl) (zu ((zB (zj rfl) zR).trans rfl) zJ))).trans Y)).trans rfl) (zj rfl)).trans (Qz (by lia)))).trans ?_)).trans ?_
  ·unfold Zp
   rw[Int.natCast_emod]
   rfl
  exact U
 ·exact Ab (Zr _) T
variable {f:Fn}{us:List W}
def D2 (v:Int)(A:Hx):qz 2 (Zy f) [.int v,.int v] A=.ok (.bl true) A:=by refine qV ?_;unfold Zy;refine(zw (ρ1:=[iV v,iV v]) (A1:=A) ((jK (A1:=A) rfl).trans rfl)).trans (qk (qN ?_));exact(Z2 (A1:=A) ((zB (zj (i:=0) rfl) (zj (i:=1) rfl)).trans ((gz _ _ _).trans (by rw[ax rfl])))).trans rfl
def Dx {x y:W}{ty:Ty}(H:zI x A=some ws)(h:zI y A=some ws)(T:jM x A=some ty)(t:jM y A=some ty)(q:ty=.tup∨ty=.lst)(l:ws.length<=1000)(o:∀w∈ws,f [w,w] A=.ok (.bl true) A):qz 2 (Zy f) [x,y] A=.ok (.bl true) A:=by
 refine qV ?_;unfold Zy;have b:mQ qf (zN (zS 0)) [some x,some y] A=.ok (.int ws.length) A:=jP (yc (w:=x) (A1:=A) (zj rfl) H);have E:mQ qf (zN (zS 1)) [some x,some y] A=.ok (.int ws.length) A:=jP (yc (w:=y) (A1:=A) (zj rfl) h);have I:XN .tup .lst (zS 1) [some x,some y] A=.ok (.bl true) A:=by unfold XN;rw[zj (w:=y) rfl,zK,t];rcases q with rfl|rfl<;>rfl
 have n:∀c,zh je (gC c (zS 0)) (gC c (zS 1)) [some x,some y] A=.ok (.bl false) A:=λc=>(zB (QD (w:=x) (zj rfl) T) (QD (w:=y) (zj rfl) t)).trans ((LX _ _ _).trans (by rw[bB];rfl))
 refine qk ((yP (A1:=A) I).trans ?_);refine(zw (ρ1:=[some x,some y]) (A1:=A) ((jK (A1:=A) ((Wn (A1:=A) (n .tup)).trans (n .lst))).trans qC)).trans ?_;refine(zw (ρ1:=[some x,some y]) (A1:=A) ((jK (A1:=A) ((zB b E).trans ((Jl _ _ _).trans (by rw[ax rfl];rfl)))).trans qC)).trans (qk (qN ?_))
 have z:kI (zS 0) (zS 1) [some x,some y] A=.ok (wc x y ws.length) A:=by unfold kI;rw[zj (w:=x) rfl,zK,zj (w:=y) rfl,zK,H,h]
 have d:=Gk (A:=A) (cap:=[]) (ρ:=[some x,some y]) (me:=zP f (zi (zS 0) (zi (zS 1) zr))) (N:=ws.length) (u:=λi=>ws.getD i .non) (v:=λi=>ws.getD i .non) (g:=λ_=>.bl true) z rfl l
  (λi a=>by
   show(match zI x A,zI y A with|some U,some j=>some (zip2 U[i]? j[i]?)|_,_=>none)=_
   rw[H,h];show some (zip2 ws[i]? ws[i]?)=_;rw[aa,ae a];rfl)
  (by
   show(match zI x A,zI y A with|some U,some j=>some (zip2 U[ws.length]? j[ws.length]?)|_,_=>none)=_
   rw[H,h];show some (zip2 ws[ws.length]? ws[ws.length]?)=_;rw[az (ao _)];rfl)
  (λi a=>by
   have e:ws.getD i .non=ws[i]:=by rw[aa,ae a];rfl
   rw[e];exact(zT (ws:=[ws[i],ws[i]]) (A1:=A) rfl).trans (o _ (aK a)))
 exact(jP d).trans (K4 (p:=λ_=>true) λ_ _=>rfl)
end
section
variable {w z:bR}{j k l m K:Nat}{S:List (bQ)}
noncomputable def tb (z w:bR):Nat->Int×Int
 |0=>(0,1)|k+1=>((tb z w k).1 * z.getD k 0+w.getD k 0 * w.getD k 0 * (tb z w k).2,(tb z w k).2 * z.getD k 0)
def X1 {v:Int}(h:-9<v/\v<9):0<=v * v/\v * v<=64:=by
 have a:v.natAbs<=8:=by lia
 have:=Nat.mul_le_mul a a
 rw[← Int.natAbs_mul_self];lia
theorem Sz (H:Zs K z)(o:w.length=K)(c:∀v∈w,-9<v/\v<9)(l:w.getD 0 0=1):∀k,k<=K->(0<(tb z w k).2/\(tb z w k).2<=(8:Int) ^ k)/\(0<=(tb z w k).1/\(tb z w k).1<=64 * (k:Int) * (8:Int) ^ k)/\(1<=k->0<(tb z w k).1)
 |0,_=>by
  refine⟨?_,?_,λh=>absurd h (by lia)⟩
  ·show 0<(1:Int)/\(1:Int)<=8 ^ 0
   decide
  ·show 0<=(0:Int)/\(0:Int)<=64 * ((0:Nat):Int) * 8 ^ 0
   decide
 |k+1,i=>by
  obtain⟨⟨g,d⟩,⟨c1,c2⟩,e⟩:=Sz H o c l k (by lia)
  have Z:=H.le (k:=k) (by lia)
  have b:=X1 (c _ (getD_mem (w:=w) (k:=k)))
  have p:(0:Int)<8 ^ k:=Int.pow_pos (by decide)
  have f:k=0->w.getD k 0 * w.getD k 0=1:=λq=>by subst q;rw[l];rfl
  unfold tb;generalize (tb z w k).1=T at*;generalize (tb z w k).2=B at*;generalize w.getD k 0 * w.getD k 0=a at*;have N:=mul_nonneg c1 (show 0<=z.getD k 0 by lia)
  have n:=mul_nonneg b.1 (show 0<=B by lia)
  refine⟨⟨mul_pos g (by lia),?_⟩,⟨?_,?_⟩,λ_=>?_⟩
  ·rw[Int.pow_succ]
   exact Int.mul_le_mul d Z.2 (by lia) (by lia)
  ·exact Int.add_nonneg N n
  ·have t:T * z.getD k 0<=64 * (k:Int) * 8 ^ k * 8:=Int.mul_le_mul c2 Z.2 (by lia) (mul_nonneg (by lia) (by lia))
   have r:a * B<=64 * 8 ^ k:=Int.mul_le_mul b.2 d (by lia) (by lia)
   have j:64 * ((k+1:Nat):Int) * (8:Int) ^ (k+1)=64 * (k:Int) * 8 ^ k * 8+512 * 8 ^ k:=by
    rw[Int.pow_succ]
    grind
   show T * z.getD k 0+a * B<=_;lia
  ·show 0<T * z.getD k 0+a * B
   by_cases q:k=0
   ·rw[f q]at n ⊢
    lia
   ·have:=mul_pos (e (by lia)) (show 0<z.getD k 0 by lia)
    lia
def Ie {k:Nat}(h:k<=8):(8:Int) ^ k<=16777216:=by
 have:=Nat.pow_le_pow_right (show 8>0 by decide) h
 have:(8:Int) ^ k=((8 ^ k:Nat):Int):=(Int.natCast_pow 8 k).symm
 lia
def M8 (h:Zs K z)(a:K<=8)(d:w.length=K)(b:∀v∈w,-9<v/\v<9)(e:w.getD 0 0=1)(H:k<=K):(0<(tb z w k).2/\(tb z w k).2<=16777216)/\0<=(tb z w k).1/\(tb z w k).1<=8589934592:=by
 obtain⟨⟨c,B⟩,⟨c1,c2⟩,_⟩:=Sz h d b e k H;have p:=Ie (k:=k) (by lia)
 have P:(0:Int)<8 ^ k:=Int.pow_pos (by decide)
 have:64 * (k:Int) * 8 ^ k<=512 * 16777216:=Int.mul_le_mul (by lia) p (by lia) (by decide)
 lia
def Yd (n K:Nat)(z w:bR):Int:=(n:Int) * (tb z w K).2/(tb z w K).1
def nq (d:Dt t K S z)(h:Wt K S z w):0<(tb z w K).1/\0<=Yd t.length K z w/\Yd t.length K z w<=134217728:=by
 have H:=h.sm d.zs;have n:=d.tab.n8;have a:=d.k8;obtain⟨⟨B,b⟩,_,T⟩:=Sz d.zs h.l H h.o K (ao _);have T:=T d.k1;have p:=Ie a;refine⟨T,Int.ediv_nonneg (mul_nonneg (by lia) (by lia)) (by lia),?_⟩
 unfold Yd;have c:(t.length:Int) * (tb z w K).2<=8 * 16777216:=Int.mul_le_mul (by lia) (by lia) (by lia) (by lia)
 exact Int.le_trans (Int.ediv_le_self _ (mul_nonneg (by lia) (by lia))) c
def Ng (d:Dt t K S z)(h:Wt K S z w)(A:Hx):V1 [zm t,zo w] A=.ok (.int (Yd t.length K z w)) A/\V8 [zm t,zo w] A=.ok (.int (Yd t.length K z w)) A:=by
 have r:=h.l;have q:=d.zs.l;have P:=d.k1;have L:=d.k8;have g:=h.sm d.zs;have M:=d.tab.n8;have C:=λk (b:k<=K)=>M8 (k:=k) d.zs L r g h.o b;have D:qQ [zm t,zo w]=true:=by show((zm t).nr&&((zo w).nr&&true))=true;rw[ZZ,JH];rfl
 have Z:(z.map W.int).length=K:=by rw[af,q]
 have T:=(nq d h).1;obtain⟨⟨p,i⟩,c1,c2⟩:=C K (ao _);have step:∀k,k<K->(wc (.ref 0) (zo w) (z.map W.int).length).at_ [.lst (z.map W.int)] k=some (some (.tup [.int (z.getD k 0),.int (w.getD k 0)])):=λk b=>(YM (n:=0) (us:=z.map W.int) rfl k _).trans (by rw[int_at,int_at];rfl)
 have stop:(wc (.ref 0) (zo w) (z.map W.int).length).at_ [.lst (z.map W.int)] K=some none:=(YM (n:=0) (us:=z.map W.int) rfl K _).trans (by rw[az (by rw[af];lia)];rfl)
 constructor
 ·have E:kI (zP QV (zi zH zr)) zG [some (zm t),some (zo w),iV 0,iV 1,none,none] []=.ok (wc (.ref 0) (zo w) (z.map W.int).length) [.lst (z.map W.int)]:=by
   have u:zP QV (zi zH zr) [some (zm t),some (zo w),iV 0,iV 1,none,none] []=.ok (.ref 0) [.lst (z.map W.int)]:=(zT (zu (zj rfl) zJ)).trans (d.zf []);unfold kI;rw[u,zK,show zG [some (zm t),some (zo w),iV 0,iV 1,none,none] [.lst (z.map W.int)]=.ok (zo w) [.lst (z.map W.int)] from zj rfl,zK]
   rfl
  obtain⟨c,B,e,H,Y,y,rfl⟩:=yH (j:=wc (.ref 0) (zo w) (z.map W.int).length) (st:=turn (jH 4 5) (zy (qd 2 (zh ql (zh qt zQ qw) (zh qt (zh qt jN jN) qv))) (zy (qd 3 (zh qt qv qw)) zV))) (N:=K) (I:=λk x B=>B=[.lst (z.map W.int)]/\∃Y y,x=[some (zm t),some (zo w),iV (tb z w k).1,iV (tb z w k).2,Y,y])
   (λk x B b ⟨H,Y,y,a⟩=>by
    subst H a;obtain⟨⟨p,i⟩,c1,c2⟩:=C k (by lia)
    have f:=g _ (getD_mem (w:=w) (k:=k))
    have J:=X1 f;refine⟨_,_,_,step k b,(jO (ρ1:=[some (zm t),some (zo w),iV (tb z w k).1,iV (tb z w k).2,iV (z.getD k 0),iV (w.getD k 0)]) rfl).trans ((zw (qi ((zB ((zB (zj rfl) (zj rfl)).trans yd) ((zB ((zB (zj rfl) (zj rfl)).trans yd) (zj rfl)).trans yd)).trans rfl))).trans ((zw (qi ((zB (zj rfl) (zj rfl)).trans yd))).trans qC)),rfl,_,_,rfl⟩)
   (λx B ⟨H,_⟩=>by subst H;exact stop)
   K 0 [some (zm t),some (zo w),iV 0,iV 1,none,none] [.lst (z.map W.int)] (by lia) ⟨rfl,_,_,rfl⟩
  subst H;refine ZF (A1:=[.lst (z.map W.int)]) D rfl (qV ?_);dsimp only[V6,mq];refine(zw (qi zR)).trans ((zw (qi zR)).trans ((zw ((jy E).trans (by show j3 _ _ (z.map W.int).length 0 _ _=_;rw[Z]at e ⊢;exact e))).trans (qk (qN ((zB ((zB (len_tab (t:=t) rfl) (zj rfl)).trans yd) (zj rfl)).trans (YO T))))))
 ·have E:kI zQ zG [some (zm t),some (zo w),rO 0,iV 0,iV 1,none,none] [.lst (z.map W.int)]=.ok (wc (.ref 0) (zo w) (z.map W.int).length) [.lst (z.map W.int)]:=rfl
  obtain⟨c,B,e,H,Y,y,rfl⟩:=yH (j:=wc (.ref 0) (zo w) (z.map W.int).length) (st:=turn (jH 5 6) (zy (qd 3 (zh ql (zh qt qv jN) (zh qt (zh qt qL qL) qw))) (zy (qd 4 (zh qt qw jN)) zV))) (N:=K) (I:=λk x B=>B=[.lst (z.map W.int)]/\∃Y y,x=[some (zm t),some (zo w),rO 0,iV (tb z w k).1,iV (tb z w k).2,Y,y])
   (λk x B b ⟨H,Y,y,a⟩=>by
    subst H a;obtain⟨⟨p,i⟩,c1,c2⟩:=C k (by lia)
    have f:=g _ (getD_mem (w:=w) (k:=k))
    have J:=X1 f;refine⟨_,_,_,step k b,(jO (ρ1:=[some (zm t),some (zo w),rO 0,iV (tb z w k).1,iV (tb z w k).2,iV (z.getD k 0),iV (w.getD k 0)]) rfl).trans ((zw (qi ((zB ((zB (zj rfl) (zj rfl)).trans yd) ((zB ((zB (zj rfl) (zj rfl)).trans yd) (zj rfl)).trans yd)).trans rfl))).trans ((zw (qi ((zB (zj rfl) (zj rfl)).trans yd))).trans qC)),rfl,_,_,rfl⟩)
   (λx B ⟨H,_⟩=>by subst H;exact stop)
   K 0 [some (zm t),some (zo w),rO 0,iV 0,iV 1,none,none] [.lst (z.map W.int)] (by lia) ⟨rfl,_,_,rfl⟩
  subst H;refine ZF (A1:=[.lst (z.map W.int)]) D rfl (qV ?_);dsimp only[V7,mq];have v:zP Ud (zi zH zr) [some (zm t),some (zo w),none,none,none,none,none] []=.ok (.ref 0) [.lst (z.map W.int)]:=(zT (zu (zj rfl) zJ)).trans (d.zf []);refine(zw (qi v)).trans ((zw (ρ1:=[some (zm t),some (zo w),rO 0,iV 0,iV 1,none,none]) (A1:=[.lst (z.map W.int)]) rfl).trans ((zw ((jy E).trans (by show j3 _ _ (z.map W.int).length 0 _ _=_;rw[Z]at e ⊢;exact e))).trans (qk (qN ((zB ((zB (len_tab (t:=t) rfl) (zj rfl)).trans yd) (zj rfl)).trans (YO T))))))
def Ly {v:Int}(H:1<=v)(h:v<=8):v * (840/v)=840/\0<840/v:=by
 have:v=1∨v=2∨v=3∨v=4∨v=5∨v=6∨v=7∨v=8:=by lia
 rcases this with rfl|rfl|rfl|rfl|rfl|rfl|rfl|rfl<;>decide
def nt (h:Wt K S z w)(H:Zs K z)(c:1<=K):0<Qw K z w:=by
 have d:∀m,m<=K->0<=Qw m z w/\(1<=m->840<=Qw m z w):=λm=>by
  induction m with
  |zero=>intro _;exact⟨Int.le_refl _,λq=>absurd q (by lia)⟩|succ m i=>
   intro f;have i:=i (by lia)
   have Z:=H.le (k:=m) (by lia)
   have a:=Ly Z.1 Z.2;have b:=X1 (h.sm H _ (getD_mem (w:=w) (k:=m) (by rw[h.l];lia)))
   have e:Qw (m+1) z w=Qw m z w+w.getD m 0 * w.getD m 0 * (840/z.getD m 0):=by unfold Qw;rw[kS]
   have p:=mul_nonneg b.1 (Int.le_of_lt a.2);refine⟨by lia,λ_=>?_⟩
   by_cases q:m=0
   ·subst q
    rw[e,h.o,H.h]
    have:=i.1
    show(840:Int)<=Qw 0 z w+1 * 1 * (840/1);lia
   ·have:=i.2 (by lia)
    lia
 have:=(d K (ao _)).2 c
 lia
theorem N6 (h:Zs K z):∀k,k<=K->(tb z w k).1 * 840=(tb z w k).2 * Qw k z w
 |0,_=>rfl|k+1,H=>by
  have e:=N6 h k (by lia)
  have Z:=h.le (k:=k) (by lia)
  have b:=Ly Z.1 Z.2;have eq:Qw (k+1) z w=Qw k z w+w.getD k 0 * w.getD k 0 * (840/z.getD k 0):=by unfold Qw;rw[kS]
  unfold tb;rw[eq];generalize (tb z w k).1=T at*;generalize (tb z w k).2=B at*;generalize w.getD k 0 * w.getD k 0=a at*;have c:=b.1;generalize 840/z.getD k 0=q at*;generalize z.getD k 0=v at*;generalize Qw k z w=Q at*;show(T * v+a * B) * 840=B * v * (Q+a * q);have f:T * v * 840=B * Q * v:=by rw[<- e,Int.mul_assoc,Int.mul_comm v 840,<- Int.mul_assoc]
  have d:a * B * 840=a * B * (v * q):=by rw[c]
  rw[Int.add_mul,f,d]
  grind
def Nc (d:Dt t K S z)(h:Wt K S z w):Yd t.length K z w=jL t.length K z w:=by
 have eq:=N6 (w:=w) d.zs K (ao _);have b:=(M8 (k:=K) d.zs d.k8 h.l (h.sm d.zs) h.o (ao _)).1.1;unfold Yd jL;rw[<- Int.mul_ediv_mul_of_pos_left (t.length * (tb z w K).2) (tb z w K).1 (show(0:Int)<840 by decide),eq,<- Int.mul_ediv_mul_of_pos_left ((t.length:Int) * 840) (Qw K z w) b]
 congr 1
 ·grind
 ·exact Int.mul_comm _ _
end
section
variable {w z x v:bR}{a b j k K m:Nat}{S:List (bQ)}
def wv (K:Nat)(w x:bR):Int:=sm K λk=>w.getD k 0 * x.getD k 0
def nv {m:Ev}(h:m ρ A=.ok (.ref n) A1)(H:A1[n]? =some (.lst ws)):Zf m ρ A=.ok (yC (.ref n) ws.length) A1:=by
 unfold Zf;rw[h,zK]
 have:zI (.ref n) A1=some ws:=by unfold zI;dsimp only;rw[H]
 rw[this]
def ny {w:W}{N:Nat}(H:A[n]? =some (.lst ws))(h:ws[i]? =some w):(yC (.ref n) N).at_ A i=some (some (.tup [.int i,w])):=by
 show(match zI (.ref n) A with|some ws=>atEnd ws i λx=>.tup [.int i,x]|none=>none)=_
 have:zI (.ref n) A=some ws:=by unfold zI;dsimp only;rw[H]
 rw[this];show atEnd ws i _=_;unfold atEnd;rw[h]
def nz {N:Nat}(h:A[n]? =some (.lst ws)):(yC (.ref n) N).at_ A ws.length=some none:=by
 show(match zI (.ref n) A with|some w=>atEnd w ws.length λx=>.tup [.int ws.length,x]|none=>none)=_
 have:zI (.ref n) A=some ws:=by unfold zI;dsimp only;rw[h]
 rw[this];show atEnd ws _ _=_;unfold atEnd;rw[az (ao _)];exact ai rfl
def nA {m M:Ev}{u v:List W}(h:m ρ A=.ok (.ref n) A)(a:A[n]? =some (.lst u))(b:M ρ A=.ok (.ref k) A)(H:A[k]? =some (.lst v)):kI m M ρ A=.ok (wc (.ref n) (.ref k) u.length) A:=by
 unfold kI;rw[h,zK,b,zK];have E:zI (.ref n) A=some u:=by unfold zI;dsimp only;rw[a]
 have e:zI (.ref k) A=some v:=by unfold zI;dsimp only;rw[H]
 rw[E,e]
def O5 {u v:List W}{N:Nat}(H:A[n]? =some (.lst u))(h:A[k]? =some (.lst v))(i:Nat):(wc (.ref n) (.ref k) N).at_ A i=some (zip2 u[i]? v[i]?):=by
 show(match zI (.ref n) A,zI (.ref k) A with|some u,some v=>some (zip2 u[i]? v[i]?)|_,_=>none)=_
 have E:zI (.ref n) A=some u:=by unfold zI;dsimp only;rw[H]
 have e:zI (.ref k) A=some v:=by unfold zI;dsimp only;rw[h]
 rw[E,e]
def nC (l:bQ)(f:List Int->Int):su l f=sm l.length λr=>f (l.getD r []):=by unfold su sm;rw[Ym l [] f]
def nE (h:Wt K S z w)(H:Zs K z)(b:1<=K)(c:n<=8):0<=jL n K z w/\jL n K z w<=6720:=by
 have q:=nt h H b;unfold jL;refine⟨Int.ediv_nonneg (by lia) (by lia),?_⟩
 have:=Int.ediv_le_self (a:=(n:Int) * 840) (Qw K z w) (by lia)
 lia
def nF (b:∀v∈w,-9<v/\v<9)(f:w.length=K)(a:x.length=K)(c:K<=8)(H:∀v∈x,-10<v/\v<10):-700<wv K w x/\wv K w x<700:=by
 have h:∀m,m<=K->-(72 * (m:Int))<=sm m (λk=>w.getD k 0 * x.getD k 0)/\sm m (λk=>w.getD k 0 * x.getD k 0)<=72 * (m:Int):=λm=>by
  induction m with
  |zero=>intro _;exact⟨by show -(72 * ((0:Nat):Int))<=0;decide,by show(0:Int)<=72 * ((0:Nat):Int);decide⟩|succ m i=>
   intro g;have i:=i (by lia)
   have A:=b _ (getD_mem (w:=w) (k:=m))
   have a2:=H _ (getD_mem (w:=x) (k:=m))
   rw[kS];have p:-72<=w.getD m 0 * x.getD m 0/\w.getD m 0 * x.getD m 0<=72:=by
    generalize w.getD m 0=p at*;generalize x.getD m 0=q at*
    have:p.natAbs<=8:=by lia
    have e:q.natAbs<=9:=by lia
    have d:(p * q).natAbs<=72:=by rw[Int.natAbs_mul];exact bC this e
    lia
   lia
 have:=h K (ao _)
 unfold wv;lia
def nG (g:Or t K)(H:(Rw t K).length=K)(h:k<K):(sm K λr=>jL t.length K (qu t K) ((Rw t K).getD r []) * wv K ((Rw t K).getD r []) x * ((Rw t K).getD r []).getD k 0)=x.getD k 0 * ((t.length:Int) * (qu t K).getD k 0):=by
 have b:(sm K λr=>jL t.length K (qu t K) ((Rw t K).getD r []) * wv K ((Rw t K).getD r []) x * ((Rw t K).getD r []).getD k 0)=sm K λr=>sm K λj=>x.getD j 0 * (jL t.length K (qu t K) ((Rw t K).getD r []) * (((Rw t K).getD r []).getD k 0 * ((Rw t K).getD r []).getD j 0)):=jZ λr _=>by unfold wv;rw[<- Xk,<- Nz];exact jZ λj _=>by grind
 rw[b,G2];have E:(sm K λj=>sm K λr=>x.getD j 0 * (jL t.length K (qu t K) ((Rw t K).getD r []) * (((Rw t K).getD r []).getD k 0 * ((Rw t K).getD r []).getD j 0)))=sm K λj=>if j=k then x.getD k 0 * ((t.length:Int) * (qu t K).getD k 0) else 0:=jZ λj a=>by
  rw[Xk]
  have:=g.or_ k j h a
  rw[nC,H]at this;rw[this]
  by_cases q:j=k
  ·subst q
   rw[ai rfl,ai rfl]
  ·rw[aj q,aj (λe=>q e.symm),Int.mul_zero]
 rw[E,TY h]
def mt (t:bQ)(K:Nat)(v:bR)(k:Nat):Int:=sm K λr=>jL t.length K (qu t K) ((Rw t K).getD r []) * v.getD r 0 * ((Rw t K).getD r []).getD k 0
def mN (t:bQ)(K k:Nat):Int:=(t.length:Int) * (qu t K).getD k 0
def jC (t:bQ)(K:Nat)(v:bR)(k:Nat):bR:=(List.range k).map λk=>mt t K v k/mN t K k
def nI (t:bQ)(K:Nat)(v:bR):Bool:=(List.range K).all λk=>decide (mt t K v k%mN t K k=0)
def kM (t:bQ)(K:Nat)(v:bR):W:=if nI t K v then zo (jC t K v K) else .non
def nJ:(kM t K v).nr=true:=by
 unfold kM
 split
 ·exact JH _
 ·rfl
def GW:(jC t K v k).length=k:=by unfold jC;rw[af,aF]
def OE:jC t K v (k+1)=jC t K v k++[mt t K v k/mN t K k]:=by unfold jC;rw[bf,aN];rfl
def Mk (H:k<K)(h:mt t K v k%mN t K k≠0):kM t K v=.non:=by unfold kM;refine aj λz=>h ?_;exact of_decide_eq_true (cy.mp z k (cm.mpr H))
def TJ (h:∀k,k<K->mt t K v k%mN t K k=0):kM t K v=zo (jC t K v K):=by unfold kM;exact ai (cy.mpr λk H=>ax (h k (cm.mp H)))
def nK (h:Tb t K)(g:Or t K)(b:(Rw t K).length=K)(a:x.length=K):kM t K ((Rw t K).map λw=>wv K w x)=zo x:=by
 have N:=h.d.tab.n1;have e:∀k,k<K->mt t K ((Rw t K).map λw=>wv K w x) k=x.getD k 0 * mN t K k:=λk H=>by
  have q:=nG (x:=x) g b H;unfold mN;rw[<- q];unfold mt;refine jZ λr c=>?_;rw[aa (l:=(Rw t K).map _),ay,ae (by lia),aa (l:=Rw t K),ae (by lia)]
  rfl
 have n:∀k,k<K->mN t K k≠0:=λk H=>by
  have z:=h.d.zs.le H
  have:0<mN t K k:=mul_pos (by lia) (by lia)
  lia
 rw[TJ λk H=>by rw[e k H,Int.mul_emod_left]]
 congr 1
 refine Sx GW a λk H=>?_;unfold jC;rw[aa,ay,aQ H];show mt t K _ k/mN t K k=_;rw[e k H,Int.mul_ediv_cancel _ (n k H)]
def NR (h:Tb t K)(H:(Rw t K).length=K)(a:W)(A:Hx)(m:Ex):zy (yx (zP Yi (zi zH zr))) (zy (qd 2 (λρ A=>((zP W0 (zi zH zr)) ρ A).nox)) m) [some (zm t),some a,none,none,none,none,none,none] A=m [some (zm t),some a,rO (A++[O.lst ((Rw t K).map zo)]).length,none,none,none,none,none] (A++[O.lst ((Rw t K).map zo)]++[O.lst ((Rw t K).map zo)]):=
 (zw (wW ((zT (zu (zj rfl) zJ)).trans (rw_T h H A)))).trans (zw (qi (Qr ((zT (zu (zj rfl) zJ)).trans (Oj h.d _)))))
def nL {a:W}(h:Tb t K)(b:(Rw t K).length=K)(H:Qk (λB w=>ZA [w,.int K] B=.ok (.bl false) B) A a):∃B,yY [zm t,a] A=.exc "NoNumbers" B/\Ext A B:=by
 have x:Ext A (A++[O.lst ((Rw t K).map zo)]++[O.lst ((Rw t K).map zo)]):=Ext.one.app;refine⟨_,QZ ?_,x⟩;dsimp only[KP];refine(NR h b a A _).trans ?_;have e:=ZD (i:=2) (ρ:=[some (zm t),some a,rO (A++[O.lst ((Rw t K).map zo)]).length,none,none,none,none,none]) rfl (show(A++[O.lst ((Rw t K).map zo)]++[O.lst ((Rw t K).map zo)])[(A++[O.lst ((Rw t K).map zo)]).length]? =some (.lst ((Rw t K).map zo)) from qB)
 rw[af,b]at e;exact g8 ((yP (Qr (kR ((zT (zu (zj rfl) (zu e zJ))).trans (H _ x.ky))))).trans (g8 rfl))
def LG {a w:W}{s:Str}(h:Yi [w] A=.exc s A1):yY [w,a] A=.exc s A1:=by refine QZ ?_;dsimp only[KP];exact g8 (UX ((zT (zu (zj rfl) zJ)).trans h))
def Lq (h:Tb t K)(H:k<K):0<mN t K k/\mN t K k<=64:=by have n:=h.d.tab.n8;have N:=h.d.tab.n1;have z:=h.d.zs.le H;unfold mN;exact⟨mul_pos (by lia) (by lia),Int.mul_le_mul (show(t.length:Int)<=8 by lia) z.2 (by lia) (by lia)⟩
abbrev mB:Ex:=zy (qd 7 (mQ wH (qy 2 [5] (kI qv zQ) (jH 0 1) qH (qe (zh qt zH (zh zD zG zQ)))))) (zy (jB (zh je (zh Z6 wI (zh qt (mQ qf (zN zH)) qL)) qG) (zy (wG gU) zV) zV) (zy (yx (j4 yk qw (zh YZ wI (zh qt (mQ qf (zN zH)) qL)))) zV))
def Xp (h:Tb t K)(w:(Rw t K).length=K)(H:i<K):Wt K (SL t K) (qu t K) ((Rw t K).getD i []):=(JQ h.d.tab h.s h.d.kd).mp (by rw[aa,ae (by lia)];exact aK _)
def S8 (h:Tb t K)(c:(Rw t K).length=K)(a:v.length=K)(B:∀e∈v,-1000<e/\e<1000)(H:i<K):(0<=jL t.length K (qu t K) ((Rw t K).getD i [])/\jL t.length K (qu t K) ((Rw t K).getD i [])<=6720)/\(-1000<v.getD i 0/\v.getD i 0<1000)/\-10000000<jL t.length K (qu t K) ((Rw t K).getD i []) * v.getD i 0/\jL t.length K (qu t K) ((Rw t K).getD i []) * v.getD i 0<10000000:=by
 have A:=nE (n:=t.length) (Xp h c H) h.d.zs h.d.k1 h.d.tab.n8;have a2:=B _ (getD_mem (w:=v) (k:=i))
 generalize jL t.length K (qu t K) ((Rw t K).getD i [])=p at*;generalize v.getD i 0=q at*;have b:(p * q).natAbs<=6720 * 1000:=by rw[Int.natAbs_mul];exact bC (by lia) (by lia)
 lia
def Mt (h:Tb t K)(f:(Rw t K).length=K)(p:v.length=K)(bv:∀e∈v,-1000<e/\e<1000)(A:Hx):Ql [zm t,zo v] A=.ok (kM t K v) A:=by
 have d:=h.d;have k8:=d.k8;have P:=d.zs.l;have C:=λr (a:r<K)=>Xp h f a;have hn:qQ [zm t,zo v]=true:=by show((zm t).nr&&((zo v).nr&&true))=true;rw[ZZ,JH];rfl
 let pt:Nat->Int:=λr=>jL t.length K (qu t K) ((Rw t K).getD r []) * v.getD r 0
 have U:qy 2 [0] (kI zQ zG) (jH 0 1) qH (qe (zh qt (zP V1 (zi zQ (zi zH zr))) zG)) [some (zm t),some (zo v),rO 1,none,none,none,none,none] [.lst ((Rw t K).map zo),.lst ((Rw t K).map zo)]=.ok ((List.range K).map λr=>.int (pt r)) [.lst ((Rw t K).map zo),.lst ((Rw t K).map zo)]:=
  Gk (N:=K) (u:=λr=>zo ((Rw t K).getD r [])) (v:=λr=>.int (v.getD r 0)) (NO (n:=1) (us:=(Rw t K).map zo) (zj rfl) rfl (zj rfl)) (by show((Rw t K).map zo).length=K;rw[af,f]) (by lia)
   (λr a=>(YM (n:=1) (us:=(Rw t K).map zo) rfl r _).trans (by rw[Qy,int_at];rfl))
   ((YM (n:=1) (us:=(Rw t K).map zo) rfl K _).trans (by rw[az (by rw[af];lia)];rfl))
   (λr a=>by have a1:=S8 h f p bv a;exact(zB ((zT (zu (zj rfl) (zu (zj rfl) zJ))).trans ((Ng d (C r a) _).1.trans (by rw[Nc d (C r a)]))) (zj rfl)).trans yd)
 let H:List Int->Hx:=λq=>[.lst ((Rw t K).map zo),.lst ((Rw t K).map zo),.lst ((List.range K).map λr=>.int (pt r)),.lst (q.map W.int),.lst ((qu t K).map W.int)]
 have Z:((qu t K).map W.int).length=K:=by rw[af,P]
 have go:=Yt (j:=yC (.ref 4) ((qu t K).map W.int).length) (st:=turn (jH 5 6) mB) (N:=K) (I:=λk ρ B=>B=H (jC t K v k)/\(∀i,i<k->mt t K v i%mN t K i=0)/\∃y5 y6 Y,ρ=[some (zm t),some (zo v),rO 1,rO 2,rO 3,y5,y6,Y]) (Q:=λr _=>r=.non/\kM t K v=.non)
  (λk ρ B y ⟨g,hm,y5,y6,Y,c⟩=>by
   subst g c;have J:qy 2 [5] (kI qv zQ) (jH 0 1) qH (qe (zh qt zH (zh zD zG zQ))) [some (zm t),some (zo v),rO 1,rO 2,rO 3,iO k,iV ((qu t K).getD k 0),Y] (H (jC t K v k))=.ok ((List.range K).map λr=>.int (pt r * ((Rw t K).getD r []).getD k 0)) (H (jC t K v k)):=
    Gk (N:=K) (u:=λr=>.int (pt r)) (v:=λr=>zo ((Rw t K).getD r [])) (nA (n:=2) (k:=1) (zj rfl) rfl (zj rfl) rfl) (by show((List.range K).map λr=>W.int (pt r)).length=K;rw[af,aF]) (by lia)
     (λr a=>(O5 (n:=2) (k:=1) rfl rfl r).trans (by rw[ay,aQ a,Qy];rfl))
     ((O5 (n:=2) (k:=1) rfl rfl K).trans (by rw[az (by rw[af,aF];exact ao _)];rfl))
     (λr a=>by
      have:-10000000<pt r/\pt r<10000000:=(S8 h f p bv a).2.2
      exact(zB (zj rfl) ((zB (zj rfl) (zj rfl)).trans (wC (b:=k) (by rw[(C r a).l];exact y)))).trans yd)
   have T:((List.range K).map λr=>W.int (pt r * ((Rw t K).getD r []).getD k 0))=((List.range K).map λr=>pt r * ((Rw t K).getD r []).getD k 0).map W.int:=by rw[aW];rfl
   rw[T]at J;have L:mQ wH (qy 2 [5] (kI qv zQ) (jH 0 1) qH (qe (zh qt zH (zh zD zG zQ)))) [some (zm t),some (zo v),rO 1,rO 2,rO 3,iO k,iV ((qu t K).getD k 0),Y] (H (jC t K v k))=.ok (.int (mt t K v k)) (H (jC t K v k)):=(jP J).trans (K2 _);have nb:=Lq h y;have em:∀{B:Hx},zh qt (mQ qf (zN zH)) qL [some (zm t),some (zo v),rO 1,rO 2,rO 3,iO k,iV ((qu t K).getD k 0),iV (mt t K v k)] B=.ok (.int (mN t K k)) B:=λ {B}=>(zB (len_tab (t:=t) rfl) (zj rfl)).trans (yd (by have:=d.tab.n8;lia) (by have:=d.tab.n8;lia))
   have o:zh je (zh Z6 wI (zh qt (mQ qf (zN zH)) qL)) qG [some (zm t),some (zo v),rO 1,rO 2,rO 3,iO k,iV ((qu t K).getD k 0),iV (mt t K v k)] (H (jC t K v k))=.ok (.bl (!decide (mt t K v k%mN t K k=0))) (H (jC t K v k)):=(zB ((zB (zj rfl) em).trans (Qz nb.1)) zR).trans (Jl _ _ _);refine⟨.tup [.int k,.int ((qu t K).getD k 0)],ny rfl (int_at),?_⟩
   by_cases q:mt t K v k%mN t K k=0
   ·rw[ax q]at o
    refine .inl ⟨[some (zm t),some (zo v),rO 1,rO 2,rO 3,iO k,iV ((qu t K).getD k 0),iV (mt t K v k)],H (jC t K v (k+1)),(jO (ρ1:=[some (zm t),some (zo v),rO 1,rO 2,rO 3,iO k,iV ((qu t K).getD k 0),Y]) rfl).trans ((zw (qi L)).trans ((zw ((jK o).trans qC)).trans ((zw (wW ((ZC (zj rfl) rfl ((zB (zj rfl) em).trans (YO nb.1))).trans (QX (A:=H (jC t K v k)) (n:=3) (ws:=(jC t K v k).map W.int) rfl (by rw[af,GW];lia))))).trans (qC.trans ?_)))),rfl,λi D=>?_,_,_,_,rfl⟩
    ·show R.ok _ [_,_,_,O.lst _,_]=R.ok _ [_,_,_,O.lst _,_]
     rw[OE,aN]
     rfl
    ·by_cases z:i=k
     ·rw[z];exact q
     ·exact hm i (by lia)
   ·rw[aE q]at o
    exact .inr ⟨.non,_,(jO (ρ1:=[some (zm t),some (zo v),rO 1,rO 2,rO 3,iO k,iV ((qu t K).getD k 0),Y]) rfl).trans ((zw (qi L)).trans (qk ((yP o).trans (qk (qN zR))))),rfl,Mk y q⟩)
  (λρ B ⟨g,_,_⟩=>by
   subst g
   have:=nz (A:=H (jC t K v K)) (n:=4) (ws:=(qu t K).map W.int) (N:=((qu t K).map W.int).length) rfl
   rw[Z]at this ⊢;exact this) K 0 [some (zm t),some (zo v),rO 1,rO 2,rO 3,none,none,none] (H []) (by lia) ⟨rfl,λi D=>absurd D (by lia),_,_,_,rfl⟩
 have E:mQ qf (zN zQ) [some (zm t),some (zo v),rO 1,none,none,none,none,none] [.lst ((Rw t K).map zo),.lst ((Rw t K).map zo)]=.ok (.int (v.length:Int)) [.lst ((Rw t K).map zo),.lst ((Rw t K).map zo)]:=by have e:=ZD (i:=2) (r:=1) (B:=[.lst ((Rw t K).map zo),.lst ((Rw t K).map zo)]) (ws:=(Rw t K).map zo) (ρ:=[some (zm t),some (zo v),rO 1,none,none,none,none,none]) rfl rfl;rw[af,f]at e;rw[p];exact e
 have X:∀{r:R Fl},j3 (yC (.ref 4) ((qu t K).map W.int).length) (turn (jH 5 6) mB) K 0 [some (zm t),some (zo v),rO 1,rO 2,rO 3,none,none,none] (H [])=r->jD (Zf (zP QV (zi zH zr))) (jH 5 6) mB [some (zm t),some (zo v),rO 1,rO 2,rO 3,none,none,none] [.lst ((Rw t K).map zo),.lst ((Rw t K).map zo),.lst ((List.range K).map λr=>.int (pt r)),.lst []]=r:=λ {r} e=>(jy (nv (n:=4) ((zT (zu (zj rfl) zJ)).trans (d.zf _)) rfl)).trans (by show j3 _ _ ((qu t K).map W.int).length 0 _ _=_;rw[Z]at e ⊢;exact e)
 obtain⟨B,e⟩:∃B,yY [zm t,zo v] []=.ok (kM t K v) B:=by
  have hd:∀{B:Hx},zy (jD (Zf (zP QV (zi zH zr))) (jH 5 6) mB) (zy (wG (mQ jS (zN qw))) zV) [some (zm t),some (zo v),rO 1,rO 2,rO 3,none,none,none] [.lst ((Rw t K).map zo),.lst ((Rw t K).map zo),.lst ((List.range K).map λr=>.int (pt r)),.lst []]=.ok (.rt (kM t K v)) B->yY [zm t,zo v] []=.ok (kM t K v) B:=λ {B} S=>by
   refine NA ?_;dsimp only[KP];refine(NR h f (zo v) [] _).trans ?_;refine(zw ((jK (Qr (kR (k:=true) ((zT (zu (zj rfl) (zu E zJ))).trans (CC (by lia) _))))).trans qC)).trans ?_
   exact Qr ((zw (qi (yZ U))).trans ((zw (qi (jx zJ))).trans S))
  rcases go with ⟨M,B,e,g,hm,y5,y6,Y,c⟩|⟨r,B,e,a,x⟩
  ·subst g c
   refine⟨H (jC t K v K),hd ((zw (X e)).trans (qk (qN ((Ze (yc (w:=.ref 3) (ws:=(jC t K v K).map W.int) (A1:=H (jC t K v K)) (zj rfl) rfl)).trans ?_))))⟩;rw[TJ hm]
   rfl
  ·subst a
   rw[x]at hd ⊢;exact⟨_,hd (qk (X e))⟩
 exact ZF (A1:=B) hn nJ (by show(yY [zm t,zo v] []).nox=_;rw[e];rfl)
abbrev fd (t:bQ)(p q n:Nat)(a X x:Option W):En:=[some (zm t),rO p,rO q,rO n,rO (n+1),a,X,x]
abbrev dI:Ex:=zy (qd 6 (zh ql qL (zh qt (zh qt (zh zD zQ wI) (zP V8 (zi zH (zi (zh zD zG wI) zr)))) (zh zD (zh zD zG wI) jN)))) zV
def nM {p q:Nat}(h:Tb t K)(b:(Rw t K).length=K)(u:v.length=K)(D:∀e∈v,-1000<e/\e<1000)(f:A[p]? =some (.lst ((Rw t K).map zo)))(x:A[q]? =some (.lst (v.map W.int)))(y:k<K){x7:Option W}:∃y7,jD (j8 (mQ qf (zN zG))) (zM 7) dI (fd t p q n (iO k) (iV 0) x7) A=.ok (.nx (fd t p q n (iO k) (iV (mt t K v k)) y7)) A:=by
 have J:=h.d.k8;have g:=ZD (i:=1) (ρ:=fd t p q n (iO k) (iV 0) x7) rfl f;rw[af,b]at g;obtain⟨o,B,e,c,y7,rfl⟩:=yH (j:=jQ 0 K) (st:=turn (zM 7) dI) (N:=K) (I:=λr C B=>B=A/\∃y7,C=fd t p q n (iO k) (iV (sm r λr=>jL t.length K (qu t K) ((Rw t K).getD r []) * v.getD r 0 * ((Rw t K).getD r []).getD k 0)) y7)
  (λr C B a ⟨c,y7,H⟩=>by
   subst c H;have L:=S8 h b u D a;have w:=Xp h b a;have E:∀{x6:Option W},zh zD zG wI (fd t p q n (iO k) x6 (iO r)) B=.ok (zo ((Rw t K).getD r [])) B:=λ {x6}=>(zB (zj rfl) (zj rfl)).trans (wM f (Qy))
   have z:∀{x6:Option W},zh zD zQ wI (fd t p q n (iO k) x6 (iO r)) B=.ok (.int (v.getD r 0)) B:=λ {x6}=>(zB (zj rfl) (zj rfl)).trans (wM x (int_at))
   refine⟨_,_,_,ym a,(jO (ρ1:=fd t p q n (iO k) (iV (sm r λr=>jL t.length K (qu t K) ((Rw t K).getD r []) * v.getD r 0 * ((Rw t K).getD r []).getD k 0)) (iO r)) (by rw[Int.zero_add];rfl)).trans ((zw (qi ((zB (zj rfl) ((zB ((zB z ((zT (zu (zj rfl) (zu E zJ))).trans ((Ng h.d w _).2.trans (by rw[Nc h.d w])))).trans yd) ((zB E (zj rfl)).trans (wC (by rw[w.l];exact y)))).trans (yd (by rw[Int.mul_comm];lia) (by rw[Int.mul_comm];lia)))).trans rfl))).trans qC),rfl,iO r,?_⟩
   rw[kS,Int.mul_comm (v.getD r 0)]
   rfl)
  (λC B _=>yj) K 0 (fd t p q n (iO k) (iV 0) x7) A (by lia) ⟨rfl,_,rfl⟩
 subst c;exact⟨y7,(jy (yI g (ZT))).trans e⟩
abbrev dB:Ex:=zy (qd 6 qG) (zy (jD (j8 (mQ qf (zN zG))) (zM 7) dI) (zy (jB (zh je (zh Z6 qL (zh qt (mQ qf (zN zH)) (zh zD qw jN))) qG) (zy (wG gU) zV) zV) (zy (yx (j4 yk qv (zh YZ qL (zh qt (mQ qf (zN zH)) (zh zD qw jN))))) zV)))
def nN {p q:Nat}(h:Tb t K)(Y:(Rw t K).length=K)(P:v.length=K)(bv:∀e∈v,-1000<e/\e<1000)(U:A[p]? =some (.lst ((Rw t K).map zo)))(T:A[q]? =some (.lst (v.map W.int))):∃B,Jv [zm t,.ref p,.ref q] A=.ok (kM t K v) B/\Ext A B:=by
 have d:=h.d;have k8:=d.k8;have L:=d.zs.l
 let H:List Int->Hx:=λu=>A++[.lst (u.map W.int),.lst ((qu t K).map W.int)]
 have x:∀u,Ext A (H u):=λu=>⟨_,rfl⟩;have o:∀u,(H u)[A.length]? =some (.lst (u.map W.int)):=λu=>by
  show(A++_)[_]? =_;rw[ar (ao _),sub_self]
  rfl
 have D:∀u,(H u)[A.length+1]? =some (.lst ((qu t K).map W.int)):=λu=>by
  show(A++_)[_]? =_;rw[ar (by lia),Nat.add_sub_cancel_left]
  rfl
 have go:=Yt (j:=jQ 0 K) (st:=turn (zM 5) dB) (N:=K) (I:=λk ρ B=>B=H (jC t K v k)/\(∀i,i<k->mt t K v i%mN t K i=0)/\∃y5 y6 y7,ρ=fd t p q A.length y5 y6 y7) (Q:=λr B=>r=.non/\kM t K v=.non/\Ext A B)
  (λk ρ B c ⟨g,hm,y5,y6,y7,a⟩=>by
   subst g a;have nb:=Lq h c;obtain⟨Z,ei⟩:=nM (n:=A.length) (x7:=y7) h Y P bv ((x (jC t K v k)).at U) ((x (jC t K v k)).at T) c;have em:zh qt (mQ qf (zN zH)) (zh zD qw jN) (fd t p q A.length (iO k) (iV (mt t K v k)) Z) (H (jC t K v k))=.ok (.int (mN t K k)) (H (jC t K v k)):=(zB (len_tab (t:=t) rfl) ((zB (zj rfl) (zj rfl)).trans (wM (D _) (int_at)))).trans (yd (by have:=d.tab.n8;lia) (by have:=d.tab.n8;lia))
   have E:zh je (zh Z6 qL (zh qt (mQ qf (zN zH)) (zh zD qw jN))) qG (fd t p q A.length (iO k) (iV (mt t K v k)) Z) (H (jC t K v k))=.ok (.bl (!decide (mt t K v k%mN t K k=0))) (H (jC t K v k)):=(zB ((zB (zj rfl) em).trans (Qz nb.1)) zR).trans (Jl _ _ _);refine⟨.int (0+(k:Int)),ym c,?_⟩;have top:turn (zM 5) dB (.int (0+(k:Int))) (fd t p q A.length y5 y6 y7) (H (jC t K v k))=_:=(jO (ρ1:=fd t p q A.length (iO k) y6 y7) (by rw[Int.zero_add];rfl)).trans ((zw (qi zR)).trans (zw ei))
   rw[top]
   by_cases b:mt t K v k%mN t K k=0
   ·rw[ax b]at E
    refine .inl ⟨fd t p q A.length (iO k) (iV (mt t K v k)) Z,H (jC t K v (k+1)),(zw ((jK E).trans qC)).trans ((zw (wW ((ZC (zj rfl) (o _) ((zB (zj rfl) em).trans (YO nb.1))).trans (QX (o _) (by rw[af,GW];lia))))).trans (qC.trans ?_)),rfl,λi C=>?_,_,_,_,rfl⟩
    ·show R.ok _ ((A++_).set _ _)=R.ok _ (A++_)
     rw[bE _ _ (ao _),sub_self,OE,aN]
     rfl
    ·by_cases z:i=k
     ·rw[z];exact b
     ·exact hm i (by lia)
   ·rw[aE b]at E
    exact .inr ⟨.non,_,qk ((yP E).trans (qk (qN zR))),rfl,Mk c b,x _⟩)
  (λρ B _=>yj) K 0 (fd t p q A.length none none none) (H []) (by lia) ⟨rfl,λi C=>absurd C (by lia),_,_,_,rfl⟩
 have y:=ZD (i:=4) (ρ:=fd t p q A.length none none none) rfl (D []);rw[af,L]at y;have hd:∀{B:Hx},zy (jD (j8 (mQ qf (zN qw))) (zM 5) dB) (zy (wG (mQ jS (zN qv))) zV) (fd t p q A.length none none none) (H [])=.ok (.rt (kM t K v)) B->Jv [zm t,.ref p,.ref q] A=.ok (kM t K v) B:=λ {B} M=>by
  refine qV ?_;dsimp only[Up,mq];refine(zw (ρ1:=[some (zm t),rO p,rO q,rO A.length,none,none,none,none]) (qi (jx zJ))).trans ((zw (ρ1:=fd t p q A.length none none none) (A1:=H []) ((qi ((zT (zu (zj rfl) zJ)).trans (d.zf _))).trans ?_)).trans M);rw[au,aP]
  rfl
 rcases go with ⟨J,B,e,g,hm,y5,y6,y7,a⟩|⟨r,B,e,S,f,X⟩
 ·subst g a
  refine⟨H (jC t K v K),hd ((zw ((jy (yI y (ZT))).trans e)).trans (qk (qN ((Ze (yc (w:=.ref A.length) (ws:=(jC t K v K).map W.int) (A1:=H (jC t K v K)) (zj rfl) (by unfold zI;dsimp only;rw[o]))).trans ?_)))),x _⟩
  rw[TJ hm]
  rfl
 ·subst S
  rw[f]at hd ⊢;exact⟨_,hd (qk ((jy (yI y (ZT))).trans e)),X⟩
end
section
variable {w b:W}{Pu:Addr}
abbrev gp:Fn:=λw A=>(Z3 yY).m (w.map some) A
abbrev T0 (P:Obj->Addr->Obj->List V->Prop):Lm:=K1 yY P gp
abbrev T1 (P:Obj->Addr->Obj->List V->Prop):Lm:=KU yY P gp
def nO (h:QT [w] A=.exc x A1):Q5 0 PK gp (zi zG zr) [some (.clo 0 [b] PK),some w] A=.exc x A1:=by
 refine Eq.trans (b:=zP (λu=>gp (u++[b])) (zi zG zr) [some (.clo 0 [b] PK),some w] A) (by unfold Q5;exact ai rfl) ?_
 refine(zT (f:=λu=>gp (u++[b])) (ρ:=[some (.clo 0 [b] PK),some w]) (zu (zj (i:=1) rfl) zJ)).trans ?_;exact(zT (f:=yY) (ρ:=[some w,some b]) (zu (zj (i:=0) rfl) (zu (zj (i:=1) rfl) zJ))).trans (LG (rw_E h))
def nP {t:Lm}{r g:Nat}(j:t.idx=[0,1])(T:t.m=Q5 0 PK gp (zi zG zr))(d:A[2]? =some (.tab kx Pu))(h:A[r]? =some (.lst [.clo 0 [b] PK]))(l:ρ[1]? =some (rO r))(a:ρ[i]? =some (some w))(H:QT [w] A=.exc x A)(c:wY x=some g):
  jW (qy 1 [i] (qI zG) (zM 0) qH (qe (wZ 2 kx Pu t.idx (RG t 0)))) ρ A=.ok (.ref (A++GX g).length) (A++GX g++[.lst [.ref (A.length+11)]]):=by
 refine yZ ?_;unfold qy;rw[Xo (zj l) h,zK];have e:wZ 2 kx Pu t.idx (RG t 0) [some (.clo 0 [b] PK),some w] A=.ok (.ref (A.length+11)) (A++GX g):=UM d (ws:=[.clo 0 [b] PK,w]) (by rw[j];rfl) (by rw[T];exact nO H) c
 have n:QE 1 [i] ρ=[none,some w]:=by
  unfold QE;rw[List.map_singleton,a]
  rfl
 rw[n];have X:Ext A (A++GX g):=⟨_,rfl⟩;have go:jc ⟨λA i=>(zI (.ref r) A).map λf=>f[i]?,1⟩ (zM 0) qH (qe (wZ 2 kx Pu t.idx (RG t 0))) 1 0 [none,some w] [] A=.ok ([some (.clo 0 [b] PK),some w],[.ref (A.length+11)]) (A++GX g):=by
  refine(Dn (w:=.clo 0 [b] PK) ((Je h).trans rfl) e (by simp[zX])).trans (DL ?_)
  exact(Je (X.at h)).trans rfl
 show R.bind (R.nox (jc ⟨λA i=>(zI (.ref r) A).map λf=>f[i]?,1⟩ (zM 0) qH (qe (wZ 2 kx Pu t.idx (RG t 0))) 1 0 [none,some w] [] A)) _=_;rw[go]
 rfl
abbrev d1 (g:Nat):PyData:=.list [.list [.int g]]
def nQ {a b:W}{d:PyData}(c:qE A 8 a=some d)(H:qE A 8 b=some d)(h:PyData.eqv d d=true):yi a b A=.ok (.bl true) A:=by
 show wQ false a b A=_;unfold wQ;rw[c,H];dsimp only;rw[h]
 rfl
def nR {g r:Nat}(h:A[r]? =some (.lst [.clo 0 [b] PK]))(H:ρ[1]? =some (rO r)):zh qt (qA (zi (qA (zi (zW (.int g)) zr)) zr)) (mQ qf (zN zG)) ρ A=.ok (.ref (A.length+2)) (A++[.lst [.int g]]++[.lst [.ref A.length]]++[.lst [.ref A.length]]):=by
 have E:=jx (zu (jx (zu (zR (w:=.int g) (ρ:=ρ) (A:=A)) zJ)) zJ);have e:=ZD (i:=1) H (Ext.at (A':=A++[O.lst [.int g]]++[O.lst [.ref A.length]]) ⟨_,aP ..⟩ h);refine(zB E e).trans ?_;unfold qt;dsimp only;rw[qB];dsimp only;rw[ai (by show(jv 1&&decide (1 * 1<=zX))=true;decide)]
 simp
def N9 {t:Lm}{r g:Nat}(y:t.idx=[0,1])(T:t.m=Q5 0 PK gp (zi zG zr))(q:A[2]? =some (.tab kx Pu))(d:A[r]? =some (.lst [.clo 0 [b] PK]))(v:ρ[1]? =some (rO r))(l:ρ[i]? =some (some w))(j:QT [w] A=.exc x A)(n:wY x=some g):
  ∃a b C,Ext A C/\qE C 8 a=some (d1 g)/\qE C 8 b=some (d1 g)/\∀f,zh f (jW (qy 1 [i] (qI zG) (zM 0) qH (qe (wZ 2 kx Pu t.idx (RG t 0))))) (zh qt (qA (zi (qA (zi (zW (.int g)) zr)) zr)) (mQ qf (zN zG))) ρ A=f a b C:=by
 have e:=nP y T q d v l j n;have c:Ext A (A++GX g++[O.lst [.ref (A.length+11)]]):=Ext.app ⟨_,rfl⟩;have p:(A++GX g++[O.lst [.ref (A.length+11)]])[A.length+11]? =some (.lst [.int g]):=ju (Sb A g);have h:(A++GX g++[O.lst [.ref (A.length+11)]])[(A++GX g).length]? =some (.lst [.ref (A.length+11)]):=qB;generalize u:A++GX g++[O.lst [.ref (A.length+11)]]=B at e c p h;have E:=nR (g:=g) (ρ:=ρ) (c.at d) v;have X:Ext B (B++[O.lst [.int g]]++[O.lst [.ref B.length]]++[O.lst [.ref B.length]]):=Ext.one.app.app;have o:(B++[O.lst [.int g]]++[O.lst [.ref B.length]]++[O.lst [.ref B.length]])[B.length]? =some (.lst [.int g]):=ju (ju qB);have H:(B++[O.lst [.int g]]++[O.lst [.ref B.length]]++[O.lst [.ref B.length]])[B.length+2]? =some (.lst [.ref B.length]):=by
  rw[show B.length+2=(B++[O.lst [.int g]]++[O.lst [.ref B.length]]).length by simp]
  exact qB
 refine⟨_,_,_,c.trans X,?_,?_,λf=>zB e E⟩
 ·exact Of (k:=7) (X.at h) (PU (YH (X.at p)) rfl)
 ·exact Of (k:=7) H (PU (YH o) rfl)
def XU (P:Addr)(p:Obj->Addr->Obj->List V->Prop):Fn:=qz 4 (Vz Jr Yn yY p gp RG P)
def nS {r:Nat}{d:Hx}{o:O}(v:Jr [.ref n] A=.ok w d)(Q:Jp d w)(L:Kn n A d)(E:Yn [.ref n] d=.ok (zm t) (d.set n o))(S:qS n (d.set n o))(P:qm t)(g:∀B,Kw [zm t] B=.ok (.tup ws) B)
  (H:A[2]? =some (.tab kx Pu))(N:2<n)(h:A[r]? =some (.lst [.clo 0 [b] PK]))(nr:r≠n):∃D,XU Pu PK [.ref n,.ref r] A=.ok (.bl true) D/\Ext (d.set n o) D:=by
 have J:Kn n d (d.set n o):=⟨Kp.set,S⟩;have M:Jp (d.set n o) w:=Q.mono (J.ky L.st);have K:=L.trans J;generalize j:d.set n o=f at E S J M K;have T:f[2]? =some (.tab kx Pu):=by rw[K.kp.at_ 2 (j0 H) (by lia)];exact H
 have e:f[r]? =some (.lst [.clo 0 [b] PK]):=by rw[K.kp.at_ r (j0 h) nr];exact h
 obtain⟨a,c,C,x,c1,c2,p⟩:=N9 (t:=T0 PK) (i:=2) (ρ:=[rO n,rO r,some w,some (zm t)]) rfl rfl T e rfl rfl (k4 M) Fm;have u:=(p je).trans (Su c1 c2 (by decide +kernel))
 obtain⟨I,z,D,X,d1,y,l⟩:=N9 (t:=T1 PK) (i:=3) (ρ:=[rO n,rO r,some w,some (zm t)]) rfl rfl (x.at T) (x.at e) rfl rfl (k6 P (g C)) IY;have q:=(l yi).trans (nQ d1 y (by decide +kernel))
 refine⟨D,qV ?_,x.trans X⟩;unfold Vz;exact(zw (Np (gG (zu ((zT (zu (zj rfl) zJ)).trans v) (zu ((zT (zu (zj rfl) zJ)).trans E) zJ))) rfl)).trans ((zw ((jK u).trans qC)).trans (qk (qN q)))
end
section
variable {w b:W}{Pu:Addr}{l l3:List W}
def WT (l:List W):Option (List W):=(Kg QW [.int 15] l).bind (Kg Ga [])
def NC (P:Addr)(n:Nat)(w:List W)(A:Hx):Prop:=2<n/\qS n A/\A[2]? =some (.tab kx P)/\∃b,w=[b]
open Classical in
def NT (P:Addr):W->List W->Hx->R W:=λw a A=>match w with
 |.ref n=>(match A[n]? with
  |some (.lst l)=>(match WT l with|some L=>if NC P n a A then .ok (.bl true) ((A++[O.lst [.clo 0 [] PJ]]).set n (.lst L)) else .bad|none=>.bad)
  |_=>.bad)
 |_=>.bad
set_option tactic.hygienic true in
def hand (P:Obj->Addr->Obj->List V->Prop)(w:W)(J:List W)(A:Hx):Hand (XU Pu) (NT Pu) P w J A:=by
 by_cases h:NT Pu w J A=.bad
 ·exact .inl h
 right
 unfold NT at h
 split at h
 ·rename_i n
  split at h
  ·rename_i l a
   split at h
   ·rename_i p g
    split at h
    ·rename_i e
     have d:=e;obtain⟨N,s,X,b,rfl⟩:=e;have ln:=j0 a;have c:(A++[O.lst [.clo 0 [b] P]])[n]? =some (.lst l):=ju a;have T:qS n (A++[O.lst [.clo 0 [b] P]]):=s.ext Ext.one;obtain⟨w,I,B,Y,K,C,g1,Z⟩:=MK T c;obtain⟨t,o,E,S,U,vs,q⟩:=M7 K.st;obtain⟨L,f1,f2,v⟩:=UI (f:=Ga) (us:=[]) Z E;have z:L=p:=by
      have:WT l=some L:=by unfold WT;rw[g1];exact f1
      rw[g]at this;cases this
      rfl
     subst z;obtain⟨D,y,x⟩:=nS (r:=A.length) (PK:=P) (b:=b) B Y K E S U q (ju X) N qB (by lia)
     refine⟨.bl true,D,n,l,L,y,rfl,?_,a,v,?_,λi u Q=>?_⟩
     ·unfold NT
      dsimp only;rw[a];dsimp only;rw[g];dsimp only;rw[ai d]
     ·refine x.at ?_
      rw[f2];exact av K.st.lt
     ·have j:i<(A++[O.lst [.clo 0 [b] P]]).length:=by simpa using u
      obtain⟨M,H⟩:∃M,(A++[O.lst [.clo 0 [b] P]])[i]? =some M:=⟨_,ae j⟩;rw[H];refine x.at ?_;rw[aw (Ne.symm Q)];exact K.kp.get H Q
    ·exact absurd rfl h
   ·exact absurd rfl h
  ·exact absurd rfl h
 ·exact absurd rfl h
end
section
variable {K r4 r6 r9 p q j k l κ m:Nat}{D:Hx}{c w T:W}{v x u:bR}{x5 x6 x7 x8 x9 x10 x11 x12 x13:Option W}
abbrev fm (k n:Nat)(T:W)(r:Nat)(g f e d c b a X x:Option W):En:=[rO 0,iO k,rO n,some T,rO r,g,f,e,d,c,b,a,X,x]
abbrev Rl (m c:Int):jT:=qy 1 [2] (qI qw) (zM 0) qH (qe (zh w5 (zP jq (zi zG (zi (zW (.int m)) zr))) (zW (.int c))))
def Nk {m c:Int}(s:qS n A)(r:A[r4]? =some (.lst ws))(z:r4≠n)(t:ws.length<=8)(D:0<m)(g:m<1000):
  ∃(q:bR) (B:Hx),Rl m c (fm κ n T r4 x5 x6 x7 x8 x9 x10 x11 x12 x13) A=.ok (q.map W.int) B/\q.length=ws.length/\(∀v∈q,-c<=v/\v<m-c)/\Kn n A B:=by
 obtain⟨f,u,B,e,_,⟨l,h,a,d⟩,w⟩:=Ys (nl:=1) (cap:=[2]) (ρ:=fm κ n T r4 x5 x6 x7 x8 x9 x10 x11 x12 x13) (tw:=zM 0) (ifs:=qH) (em:=qe (zh w5 (zP jq (zi zG (zi (zW (.int m)) zr))) (zW (.int c)))) (N:=ws.length)
  (I:=λi x u C=>(∃y,x=[y,rO n])/\(∃l:bR,u=l.map W.int/\l.length=i/\∀v∈l,-c<=v/\v<m-c)/\Kn n A C) (Xo (m:=qw) (ρ:=fm κ n T r4 x5 x6 x7 x8 x9 x10 x11 x12 x13) (zj rfl) r) rfl
  (λi x u C j ⟨⟨y,b⟩,⟨l,h,a,d⟩,w⟩=>by
   subst b h;obtain⟨q,o,e,p,K,_⟩:=JM w.st (m:=m) D (by lia)
   refine⟨ws[i],[some ws[i],rO n],(Je (w.kp.get r z)).trans (by rw[ae j]),rfl,.inl ⟨C,_,_,o,rfl,YB (y:=.int ((q:Int)-c)) ((zB ((zT (zu (zj rfl) (zu zR zJ))).trans e) zR).trans rfl) (by rw[af];unfold zX;lia),⟨_,rfl⟩,⟨l++[(q:Int)-c],by rw[aN];rfl,by rw[au,a];rfl,λv H=>?_⟩,w.trans K⟩⟩
   rcases cA.mp H with H|H
   ·exact d v H
   ·rw[cz.mp H];lia)
  (λx u C ⟨_,_,w⟩=>(Je (w.kp.get r z)).trans (by rw[az (ao _)])) ⟨⟨none,rfl⟩,⟨[],rfl,rfl,λv H=>by cases H⟩,⟨Kp.refl,s⟩⟩
 subst h;exact⟨l,B,e,a,d,w⟩
abbrev wE:Ev:=mQ wH (qy 1 [5,7] (j8 (mQ qf (zN wI))) (zM 0) qH (qe (zh qt (zh zD zQ zH) (zh zD zG zH))))
def nU {w:bR}(a:w.length=K)(L:x.length=K)(H:K<=8)(b:∀e∈w,-9<e/\e<9):wE (fm κ n T r4 (some (zo x)) x6 (some (zo w)) x8 x9 x10 x11 x12 x13) A=.ok (.int (wv K w x)) A:=by
 have l:mQ qf (zN wI) (fm κ n T r4 (some (zo x)) x6 (some (zo w)) x8 x9 x10 x11 x12 x13) A=.ok (.int (K:Int)) A:=by have e:=Wi (ws:=w.map W.int) (ρ:=fm κ n T r4 (some (zo x)) x6 (some (zo w)) x8 x9 x10 x11 x12 x13) (i:=7) (A:=A) rfl;rw[af,a]at e;exact e
 have E:=w9 (cap:=[5,7]) (ρ:=fm κ n T r4 (some (zo x)) x6 (some (zo w)) x8 x9 x10 x11 x12 x13) (A:=A) (me:=zh qt (zh zD zQ zH) (zh zD zG zH)) (N:=K) (item:=λi=>.int (0+(i:Int))) (g:=λk=>.int (w.getD k 0 * x.getD k 0)) (yI l (ZT)) rfl (by unfold zX;lia) (λi h=>ym h) (yj (aT _)) (λi h=>by
  have:=b _ (getD_mem (w:=w) (k:=i))
  rw[Int.zero_add];exact(zB ((zB (zj rfl) (zj rfl)).trans wC) ((zB (zj rfl) (zj rfl)).trans wC)).trans yd)
 rw[show((List.range K).map λk=>W.int (w.getD k 0 * x.getD k 0))=((List.range K).map λk=>w.getD k 0 * x.getD k 0).map W.int by rw[aW];rfl]at E
 exact(jP E).trans (K2 _)
abbrev wB:Ex:=zy (yx (j4 yk qL wE)) zV
def ZO (t:bQ)(K:Nat)(x:bR):bR:=(Rw t K).map λw=>wv K w x
def Co (h:Tb t K)(p:(Rw t K).length=K)(L:x.length=K)(r:A[r4]? =some (.lst ((Rw t K).map zo))):∃y7,jD (qI qw) (zM 7) wB (fm κ n T r4 (some (zo x)) (rO A.length) x7 x8 x9 x10 x11 x12 x13) (A++[.lst []])=.ok (.nx (fm κ n T r4 (some (zo x)) (rO A.length) y7 x8 x9 x10 x11 x12 x13)) (A++[.lst ((ZO t K x).map W.int)]):=by
 have H:∀o:O,(A++[o])[r4]? =some (.lst ((Rw t K).map zo)):=λo=>ju r;have z:=h.d.k8;obtain⟨q,B,e,a,y7,rfl⟩:=yH (j:=⟨λA i=>(zI (.ref r4) A).map λy=>y[i]?,((Rw t K).map zo).length⟩) (st:=turn (zM 7) wB) (N:=K) (I:=λi v B=>B=A++[.lst (((ZO t K x).take i).map W.int)]/\∃y7,v=fm κ n T r4 (some (zo x)) (rO A.length) y7 x8 x9 x10 x11 x12 x13)
  (λi v B u ⟨a,y7,b⟩=>by
   subst a b;have g:=Xp h p u;refine⟨_,_,_,(Je (H _)).trans (by rw[Qy]),(jO (ρ1:=fm κ n T r4 (some (zo x)) (rO A.length) (some (zo ((Rw t K).getD i []))) x8 x9 x10 x11 x12 x13) rfl).trans ((zw (wW ((ZC (zj rfl) qB (nU g.l L z (g.sm h.d.zs))).trans (QX qB (by rw[af,a6];lia))))).trans qC),?_,_,rfl⟩
   have c:i<(ZO t K x).length:=by unfold ZO;rw[af];lia
   rw[take_succ c,aN,bE _ _ (ao _),sub_self]
   have:(ZO t K x)[i]=wv K ((Rw t K).getD i []) x:=by
    refine(getElem_map (f:=λw=>wv K w x) (l:=Rw t K) (i:=i)).trans ?_;rw[aa,ae (by lia)]
    rfl
   rw[this]
   rfl)
  (λv B ⟨a,_⟩=>by subst a;exact(Je (H _)).trans (by rw[az (by rw[af];lia)])) K 0 (fm κ n T r4 (some (zo x)) (rO A.length) x7 x8 x9 x10 x11 x12 x13) (A++[.lst []]) (by lia) ⟨rfl,_,rfl⟩
 subst a;rw[aZ (by unfold ZO;rw[af];lia)]at e
 refine⟨y7,(jy (Xo (zj rfl) (H _))).trans ?_⟩;show j3 _ _ ((Rw t K).map zo).length 0 _ _=_;rw[af,p]at e ⊢;exact e
def nV (h:(Rw t K).length=K):(ZO t K x).length=K:=by unfold ZO;rw[af,h]
def nW (h:Tb t K)(H:(Rw t K).length=K)(L:x.length=K)(b:∀e∈x,-10<e/\e<10):∀e∈ZO t K x,-700<e/\e<700:=λe c=>by obtain⟨w,a,rfl⟩:=cx.mp c;have g:=(JQ h.d.tab h.s h.d.kd).mp a;exact nF (g.sm h.d.zs) g.l L h.d.k8 b
def NQ {m p:Ev}{d:Hx}(h:m ρ d=.ok (.ref n) A)(c:A[n]? =some (.lst ws))(a:p ρ A=.ok (.int k) A)(b:k<=ws.length):yz m yL (j9 p) ρ d=.ok (.ref A.length) (A++[.lst (ws.take k)]):=by
 have H:j9 p ρ A=.ok (some (k:Int)) A:=by unfold j9;rw[a,zK]
 unfold yz;rw[h,zK,show yL ρ A=.ok none A from rfl,zK,H,zK]
 dsimp only;rw[c];dsimp only;have e:HT.yU ws.length 0 none=0:=rfl;unfold Y8;rw[e,HT.O1,List.drop_zero,Nat.sub_zero,Nat.min_eq_left b]
def Kh (v:bR)(i:Nat)(r:Int):bR:=v.take i++[v.getD i 0+1+r]++v.drop (i+1)
def Ak {r:Int}(h:i<v.length):(Kh v i r).length=v.length:=by unfold Kh;rw[au,au,a6,bw,aU];lia
abbrev OT:Ev:=zh ql (zh ql (yz qL yL (j9 yS)) (qA (zi (zh ql (zh ql (zh zD qL yS) qT) (zP jq (zi zQ (zi WU zr)))) zr))) (yz qL (j9 (zh ql yS qT)) yL)
def nX (s:qS n A)(d:A[r6]? =some (.lst (v.map W.int)))(n6:r6≠n)(a:i<v.length)(z:v.length<=8)(J:∀e∈v,-700<e/\e<700):∃(u:bR) (p:Nat) (B:Hx),OT (fm κ n T r4 x5 (rO r6) x7 (iO i) x9 x10 x11 x12 x13) A=.ok (.ref p) B/\B[p]? =some (.lst (u.map W.int))/\A.length<=p/\u.length=v.length/\(∀e∈u,-1000<e/\e<1000)/\Kn n A B:=by
 have U:(v.map W.int).length=v.length:=af _;have f:yz qL yL (j9 yS) (fm κ n T r4 x5 (rO r6) x7 (iO i) x9 x10 x11 x12 x13) A=.ok (.ref A.length) (A++[.lst ((v.take i).map W.int)]):=by rw[List.map_take];exact NQ (zj rfl) d (zj rfl) (by lia)
 have S:=s.ext (Ext.one (o:=.lst ((v.take i).map W.int)));have h:(A++[O.lst ((v.take i).map W.int)])[r6]? =some (.lst (v.map W.int)):=ju d;have H:(A++[O.lst ((v.take i).map W.int)])[A.length]? =some (.lst ((v.take i).map W.int)):=qB;have l:(A++[O.lst ((v.take i).map W.int)]).length=A.length+1:=by simp
 have M:=Kn.ext s (Ext.one (o:=.lst ((v.take i).map W.int)));generalize A++[O.lst ((v.take i).map W.int)]=A1 at f S h H l M;obtain⟨r,B,q,t,K,L⟩:=JM S (m:=8) (by decide) (by decide)
 have N:A.length≠n:=by have:=s.lt;lia
 have c:=K.kp.get h n6;have b:=K.kp.get H N;have j:qA (zi (zh ql (zh ql (zh zD qL yS) qT) (zP jq (zi zQ (zi WU zr)))) zr) (fm κ n T r4 x5 (rO r6) x7 (iO i) x9 x10 x11 x12 x13) A1=.ok (.ref B.length) (B++[.lst [.int (v.getD i 0+1+r)]]):=
  jx (zu ((zB ((zB ((zB (zj rfl) (zj rfl)).trans (wM h (int_at a))) zR).trans rfl) ((zT (zu (zj rfl) (zu zR zJ))).trans q)).trans rfl) zJ)
 have X:Ext B (B++[O.lst [.int (v.getD i 0+1+r)]]):=Ext.one;have E:zh ql (yz qL yL (j9 yS)) (qA (zi (zh ql (zh ql (zh zD qL yS) qT) (zP jq (zi zQ (zi WU zr)))) zr)) (fm κ n T r4 x5 (rO r6) x7 (iO i) x9 x10 x11 x12 x13) A=_:=
  (zB f j).trans (JC (X.at b) qB (by rw[af,a6];unfold zX;show min i v.length+1<=_;lia))
 have I:Ext B (B++[O.lst [.int (v.getD i 0+1+r)]]++[O.lst ((v.take i).map W.int++[.int (v.getD i 0+1+r)])]):=Ext.one.app;have P:(B++[O.lst [.int (v.getD i 0+1+r)]]++[O.lst ((v.take i).map W.int++[.int (v.getD i 0+1+r)])])[(B++[O.lst [.int (v.getD i 0+1+r)]]).length]? =_:=qB;generalize y:(B++[O.lst [.int (v.getD i 0+1+r)]]).length=p at E P;generalize B++[O.lst [.int (v.getD i 0+1+r)]]++[O.lst ((v.take i).map W.int++[.int (v.getD i 0+1+r)])]=C at E I P;have g:yz qL (j9 (zh ql yS qT)) yL (fm κ n T r4 x5 (rO r6) x7 (iO i) x9 x10 x11 x12 x13) C=.ok (.ref C.length) (C++[.lst ((v.map W.int).drop (i+1))]):=Wb (k:=i+1) (zj rfl) (I.at c) ((zB (zj rfl) zR).trans rfl) (by lia)
 have x:Ext C (C++[O.lst ((v.map W.int).drop (i+1))]):=Ext.one;have Q:(Kh v i r).map W.int=(v.take i).map W.int++[.int (v.getD i 0+1+r)]++(v.map W.int).drop (i+1):=by
  unfold Kh;rw[aN,aN,map_drop]
  rfl
 refine⟨Kh v i r,_,_,(zB E g).trans (JC (x.at P) qB (by simp;unfold zX;lia)),?_,?_,Ak a,λe D=>?_,(M.trans K).trans (Kn.ext K.st (I.trans (Ext.one.app)))⟩
 ·rw[Q]
  exact qB
 ·have:=I.len
  have:=x.len
  lia
 ·unfold Kh at D
  rcases cA.mp D with D|D
  ·rcases cA.mp D with D|D
   ·have:=J e (List.mem_of_mem_take D);lia
   ·have:=J _ (getD_mem (w:=v) (k:=i) a)
    rw[cz.mp D];lia
  ·have:=J e (bh D);lia
def DD {f:Fn}(A:Hx):qz 2 (Zy f) [.non,.non] A=.ok (.bl true) A:=by refine qV ?_;unfold Zy;exact(zw (ρ1:=[some .non,some .non]) (A1:=A) ((jK (A1:=A) rfl).trans rfl)).trans (qk (qN ((Z2 (A1:=A) rfl).trans rfl)))
def nY (h:K<=8)(A:Hx):Qj [kM t K v,kM t K v] A=.ok (.bl true) A:=by
 unfold kM
 split
 ·exact Dx (ws:=(jC t K v K).map W.int) (ty:=.tup) rfl rfl rfl rfl (.inl rfl) (by rw[af,GW];lia) λw H=>by obtain⟨e,_,rfl⟩:=cx.mp H;exact D2 e A
 ·unfold Qj
  exact DD A
abbrev cB:Ex:=zy (jB (kh (zP Qj (zi (zP Ql (zi qv (zi (mQ jS (zN Y5)) zr))) (zi (zP Jv (zi qv (zi qw (zi Y5 zr)))) zr)))) yT zV) zV
def TX (H:ρ[i]? =some (rO q))(h:A[q]? =some (.lst (v.map W.int))):mQ jS (zN (zS i)) ρ A=.ok (zo v) A:=Ze (yc (w:=.ref q) (A1:=A) (zj H) (by unfold zI;dsimp only;rw[h]))
def nZ (h:Tb t K)(l:(Rw t K).length=K)(H:v.length=K)(c:∀e∈v,-1000<e/\e<1000)(b:A[r4]? =some (.lst ((Rw t K).map zo)))(a:A[q]? =some (.lst (v.map W.int))):∃B,cB (fm κ n (zm t) r4 x5 x6 x7 x8 x9 (rO q) x11 x12 x13) A=.ok (.nx (fm κ n (zm t) r4 x5 x6 x7 x8 x9 (rO q) x11 x12 x13)) B/\Ext A B:=by obtain⟨B,e,x⟩:=nN h l H c b a;exact⟨B,(zw ((jK (kR (k:=true) ((zT (zu ((zT (zu (zj rfl) (zu (TX (i:=10) rfl a) zJ))).trans (Mt h l H c A)) (zu ((zT (zu (zj rfl) (zu (zj rfl) (zu (zj rfl) zJ)))).trans e) zJ))).trans (nY h.d.k8 B)))).trans qC)).trans qC,x⟩
abbrev Vw:Ev:=qA (zi qL (zi Qe (zi (jW (Rl 30 15)) zr)))
def AY (h:Tb t K)(l:(Rw t K).length=K)(s:qS n A)(J:A[r4]? =some (.lst ((Rw t K).map zo)))(o:r4≠n)(h6:A[r6]? =some (.lst (v.map W.int)))(n6:r6≠n)(Z:v.length=K)(bv:∀e∈v,-1000<e/\e<1000)(h9:A[r9]? =some (.lst (u.map W.int)))(S:r9≠n)(hu:u.length=K)(bu:∀e∈u,-1000<e/\e<1000):
  ∃Y B,jD (qI Vw) (zM 10) cB (fm κ n (zm t) r4 x5 (rO r6) x7 x8 (rO r9) x10 x11 x12 x13) A=.ok (.nx (fm κ n (zm t) r4 x5 (rO r6) x7 x8 (rO r9) Y x11 x12 x13)) B/\Kn n A B:=by
 obtain⟨z,B,e1,L,bz,k1⟩:=Nk (κ:=κ) (T:=zm t) (x5:=x5) (x6:=rO r6) (x7:=x7) (x8:=x8) (x9:=rO r9) (x10:=x10) (x11:=x11) (x12:=x12) (x13:=x13) (m:=30) (c:=15) s J o (by rw[af,l];exact h.d.k8) (by decide) (by decide)
 rw[af,l]at L;have g:∀e∈z,-1000<e/\e<1000:=λe he=>by have:=bz e he;lia
 have E:Vw (fm κ n (zm t) r4 x5 (rO r6) x7 x8 (rO r9) x10 x11 x12 x13) A=.ok (.ref (B++[O.lst (z.map W.int)]).length) (B++[O.lst (z.map W.int)]++[.lst [.ref r6,.ref r9,.ref B.length]]):=jx (zu (zj rfl) (zu (zj rfl) (zu (yZ e1) zJ)));have X:Ext B (B++[O.lst (z.map W.int)]++[.lst [.ref r6,.ref r9,.ref B.length]]):=Ext.one.app;have w:(B++[O.lst (z.map W.int)]++[O.lst [.ref r6,.ref r9,.ref B.length]])[B.length]? =some (.lst (z.map W.int)):=ju qB;have H:(B++[O.lst (z.map W.int)]++[O.lst [.ref r6,.ref r9,.ref B.length]])[(B++[O.lst (z.map W.int)]).length]? =some (.lst [.ref r6,.ref r9,.ref B.length]):=qB;have k2:=k1.trans (Kn.ext k1.st X);generalize (B++[O.lst (z.map W.int)]).length=r at E H;generalize B++[O.lst (z.map W.int)]++[O.lst [.ref r6,.ref r9,.ref B.length]]=C at E w H k2 X;have one:∀(q:Nat),q<3->∃(p:Nat) (y:bR),[(.ref r6:W),.ref r9,.ref B.length][q]? =some (.ref p)/\C[p]? =some (.lst (y.map W.int))/\y.length=K/\∀e∈y,-1000<e/\e<1000:=λq b=>by
  match q,b with|0,_=>exact⟨_,v,rfl,k2.kp.get h6 n6,Z,bv⟩|1,_=>exact⟨_,u,rfl,k2.kp.get h9 S,hu,bu⟩|2,_=>exact⟨_,z,rfl,w,L,g⟩|q+3,h=>exact absurd h (by lia)
 have f:=k2.kp.get J o;obtain⟨M,D,e3,⟨Y,rfl⟩,P⟩:=yH (j:=⟨λA' i=>(zI (.ref r) A').map λws=>ws[i]?,3⟩) (st:=turn (zM 10) cB) (N:=3) (I:=λ_ ρ B=>(∃Y,ρ=fm κ n (zm t) r4 x5 (rO r6) x7 x8 (rO r9) Y x11 x12 x13)/\Ext C B)
  (λq ρ B' b ⟨⟨Y,a⟩,x⟩=>by subst a;obtain⟨p,y,ep,hp,U,by_⟩:=one q b;obtain⟨D,e',Q⟩:=nZ (κ:=κ) (n:=n) (x5:=x5) (x6:=rO r6) (x7:=x7) (x8:=x8) (x9:=rO r9) (x11:=x11) (x12:=x12) (x13:=x13) h l U by_ (x.at f) (x.at hp);exact⟨_,_,_,(Je (x.at H)).trans (by rw[ep]),(jO rfl).trans e',⟨_,rfl⟩,x.trans Q⟩)
  (λρ B' ⟨_,x⟩=>(Je (x.at H)).trans rfl) 3 0 _ C (by lia) ⟨⟨x10,rfl⟩,.refl⟩
 exact⟨Y,D,(jy (Xo E H)).trans e3,k2.trans (Kn.ext k2.st P)⟩
abbrev NW (K:Nat):Hx->W->Prop:=λB w=>ZA [w,.int K] B=.ok (.bl false) B
def Xm {ty:Ty}(h:jM w A=some ty)(H:ty≠.tup):Qk (NW K) A w:=λB k=>by unfold NW ZA KC;refine qV ?_;dsimp only[Yr,mq];exact qk (qN (JJ ((QD (zj rfl) (k _ _ h)).trans (by rw[MJ H]))))
def Tu (l:ws.length<=100)(w:∀x∈ws,Cw x)(h:(decide (ws.length=K)&&ws.all km)=false):Qk (NW K) A (.tup ws):=λB _=>by unfold NW;rw[C9 l λx H=>by obtain⟨_,ty,a⟩:=w x H;exact⟨ty,a B⟩,h]
def cw_i (i:Int):Cw (.int i):=⟨rfl,.int,λ_=>rfl⟩
def cw_m:∀x∈v.map W.int,Cw x:=λx h=>by obtain⟨i,_,rfl⟩:=cx.mp h;exact cw_i i
def Y2:List W:=[.bl true,.non,.str "1",.tup [.int 1]]
def Am (h:w∈Y2):Cw w/\km w=false:=by simp only[Y2,mem_cons,bG,or_false]at h;rcases h with rfl|rfl|rfl|rfl<;>exact⟨⟨rfl,_,λ_=>rfl⟩,rfl⟩
def n0 (s:qS n A):∃w B,zh zD (qA (zi qH (zi gU (zi (zW (.str "1")) (zi (qP (zi qT zr)) zr))))) (zP jq (zi zQ (zi WR zr))) (fm κ n T r4 x5 x6 x7 x8 x9 x10 x11 x12 x13) A=.ok w B/\Cw w/\km w=false/\Kn n A B:=by
 obtain⟨q,C,e,H,K,_⟩:=JM (s.ext (Ext.one (o:=.lst Y2))) (m:=4) (by decide) (by decide)
 have h:q<Y2.length:=by show q<4;lia
 obtain⟨b,a⟩:=Am (aK h);have E:qA (zi qH (zi gU (zi (zW (.str "1")) (zi (qP (zi qT zr)) zr)))) (fm κ n T r4 x5 x6 x7 x8 x9 x10 x11 x12 x13) A=.ok (.ref A.length) (A++[.lst Y2]):=jx (zu zR (zu zR (zu zR (zu (gG (zu zR zJ)) zJ))));exact⟨Y2[q],C,(zB E ((zT (zu (zj rfl) (zu zR zJ))).trans e)).trans (wM (K.kp.get qB (by have:=s.lt;lia)) (ae h)),b,a,(Kn.ext s Ext.one).trans K⟩
abbrev BE:Ea:=zi qL (zi (mQ jS (zN (yz qL (j9 qT) yL))) (zi (zh ql (mQ jS (zN qL)) (qP (zi qG zr))) (zi gU (zi qG (zi X5 zr)))))
abbrev BA:Ev:=zh ql (zh ql (mQ jS (zN (yz Qe yL (j9 yS)))) (qP (zi Lf zr))) (mQ jS (zN (yz Qe (j9 (zh ql yS qT)) yL)))
def TM {o:List W}(h:A[p]? =some (.lst o)):jM (.ref p) A=some .lst:=by unfold jM;dsimp only;rw[h]
def og (a:A[r6]? =some (.lst (v.map W.int)))(b:v.length=K)(d:1<=K)(c:K<=8):∃r B,qA BE (fm κ n T r4 x5 (rO r6) x7 x8 x9 x10 x11 x12 x13) A=.ok (.ref r) B/\TL (NW K) A r 6 B:=by
 refine NH (yO (λB x=>⟨_,B,zj rfl,.refl,Xm (TM (x.at a)) (by decide)⟩) (yO (λB x=>?_) (yO (λB x=>?_) (yO (SD (w:=.non) (λ_=>rfl) λB=>Xm (ty:=.non) rfl (by decide) B (λ_ _ h=>h)) (yO (SD (w:=.int 0) (λ_=>rfl) λB=>Xm (ty:=.int) rfl (by decide) B (λ_ _ h=>h)) (yO (λB x=>⟨.ref B.length,B++[.dct []],rfl,Ext.one,Xm (ty:=.dct) (by unfold jM;dsimp only;rw[qB]) (by decide)⟩) Tj))))))
 ·have e:=Wb (k:=1) (p:=qT) (ρ:=fm κ n T r4 x5 (rO r6) x7 x8 x9 x10 x11 x12 x13) (m:=qL) (zj rfl) (x.at a) zR (by rw[af];lia)
  refine⟨.tup ((v.map W.int).drop 1),_,Ze (yc e (by unfold zI;dsimp only;rw[qB])),Ext.one,Tu (by rw[bw,af];lia) (λx H=>cw_m x (bh H)) ?_⟩
  rw[aE (by rw[bw,af];lia),Bool.false_and]
 ·refine⟨.tup (v.map W.int++[W.int 0]),B,(zB (TX (i:=6) rfl (x.at a)) (gG (zu (zR (w:=.int 0)) zJ))).trans (KJ (us:=v.map W.int) (vs:=[.int 0]) (by rw[af];show v.length+1<=_;lia)),.refl,Tu (by rw[au,af];show v.length+1<=_;lia) (λx H=>?_) ?_⟩
  ·rcases cA.mp H with H|H
   ·exact cw_m x H
   ·rw[cz.mp H];exact cw_i 0
  ·rw[aE (by rw[au,af];show ¬v.length+1=K;lia),Bool.false_and]
def oh {o:W}(H:B[r9]? =some (.lst (u.map W.int)))(c:i<u.length)(d:u.length<=8)(a:Cw o)(f:km o=false):∃w C,BA (fm κ n T r4 x5 x6 x7 (iO i) (rO r9) x10 (some o) x12 x13) B=.ok w C/\Ext B C/\Qk (NW K) C w:=by
 have l:(u.map W.int).length=u.length:=af _;have b:mQ jS (zN (yz Qe yL (j9 yS))) (fm κ n T r4 x5 x6 x7 (iO i) (rO r9) x10 (some o) x12 x13) B=.ok (.tup ((u.map W.int).take i)) (B++[.lst ((u.map W.int).take i)]):=Ze (yc (NQ (zj rfl) H (zj rfl) (by lia)) (by unfold zI;dsimp only;rw[qB]))
 have E:=(zB (g:=ql) b (gG (zu (zj (i:=11) (w:=o) rfl) zJ))).trans (KJ (by rw[a6];show min i _+1<=_;lia))
 have e:mQ jS (zN (yz Qe (j9 (zh ql yS qT)) yL)) (fm κ n T r4 x5 x6 x7 (iO i) (rO r9) x10 (some o) x12 x13) (B++[.lst ((u.map W.int).take i)])=.ok (.tup ((u.map W.int).drop (i+1))) (B++[.lst ((u.map W.int).take i)]++[.lst ((u.map W.int).drop (i+1))]):=Ze (yc (Wb (k:=i+1) (zj rfl) (ju H) ((zB (zj rfl) zR).trans rfl) (by lia)) (by unfold zI;dsimp only;rw[qB]))
 refine⟨_,_,(zB E e).trans (KJ (by simp;lia)),Ext.one.app,Tu (by simp;lia) (λx h=>?_) ?_⟩
 ·rcases cA.mp h with h|h
  ·rcases cA.mp h with h|h
   ·exact cw_m x (List.mem_of_mem_take h)
   ·rw[cz.mp h];exact a
  ·exact cw_m x (bh h)
 ·rw[all_append,all_append]
  show(_&&(_&&(km o&&true)&&_))=false;rw[f,Bool.false_and,Bool.and_false,Bool.false_and,Bool.and_false]
def oj {q:Hx->W->Prop}(t:TL q A p k B)(d:k<=100){w:W}{C:Hx}(x:Ext B C)(g:Qk q C w):∃D,yk (.ref p) w C=.ok .non D/\TL q A p (k+1) D:=by
 obtain⟨f,e,l,a⟩:=t.at_;have E:=x.at e;have b:=j0 E;have ky:Ky C (C.set p (.lst (f++[w]))):=λv ty h=>by
  cases v with
  |ref i=>
   by_cases z:i=p
   ·subst z
    rw[TM E]at h;rw[TM (o:=f++[w]) (av b)];exact h
   ·unfold jM at h ⊢
    dsimp only at h ⊢;rw[aw (Ne.symm z)];exact h
  |_=>exact h
 refine⟨_,QX E (by lia),⟨f++[w],av b,by rw[au,l];rfl,λv H=>?_⟩,t.nw,?_⟩
 ·rcases cA.mp H with H|H
  ·exact((a v H).mono x.ky).mono ky
  ·rw[cz.mp H];exact g.mono ky
 ·obtain⟨L,c⟩:=t.ext.trans x
  refine⟨L.set (p-A.length) (.lst (f++[w])),?_⟩;rw[c,bE _ _ t.nw]
def om {q:Hx->W->Prop}(s:qS n A)(t:TL q A p k B)(a:k=7)(H:x12=rO p):∃w C,zh zD (zS 12) (zP jq (zi zQ (zi QR zr))) (fm κ n T r4 x5 x6 x7 x8 x9 x10 x11 x12 x13) B=.ok w C/\Qk q C w/\Kn n A C:=by
 subst H;obtain⟨c,e,l,d⟩:=t.at_;have sB:=s.ext t.ext;obtain⟨j,C,E,b,K,_⟩:=JM sB (m:=7) (by decide) (by decide)
 have h:j<c.length:=by lia
 have r:p≠n:=by have:=s.lt;have:=t.nw;lia
 exact⟨c[j],C,(zB (zj rfl) ((zT (zu (zj rfl) (zu zR zJ))).trans E)).trans (wM (K.kp.get e r) (ae h)),(d _ (aK h)).mono (K.ky sB),(Kn.ext s t.ext).trans K⟩
end
section
variable {K r4 r6 r9 k κ:Nat}{a b c w T:W}{Pu:Addr}{x5 x6 x7 x8 x9 x10 x11 x12 x13:Option W}
def Hf:wY "NoNumbers"=some 17:=by decide +kernel
def HG:wY "NotWhole"=some 16:=by decide +kernel
abbrev T2:Lm:=K3 yY
abbrev T3:Lm:=KQ yY
abbrev NB (P:Addr):Ex:=jB (zh je (wZ 1 k9 P T2.idx (RG T2 0)) (qA (zi (zW (.int 17)) zr))) yT zV
def ot (h:Tb t K)(w:(Rw t K).length=K)(a:A[1]? =some (.tab k9 Pt))(H:Qk (NW K) A b):∃B,NB Pt (fm κ n (zm t) r4 x5 x6 x7 x8 x9 x10 x11 (some b) x13) A=.ok (.nx (fm κ n (zm t) r4 x5 x6 x7 x8 x9 x10 x11 (some b) x13)) B/\Ext A B:=by obtain⟨B,e,x⟩:=nL h w H;have c:T2.m ([zm t,b].map some) A=.exc "NoNumbers" B:=(zT (ρ:=[some (zm t),some b]) (zu (zj (i:=0) rfl) (zu (zj (i:=1) rfl) zJ))).trans e;have E:=UM (ρ:=fm κ n (zm t) r4 x5 x6 x7 x8 x9 x10 x11 (some b) x13) (t:=T2) a (ws:=[zm t,b]) rfl c Hf;exact⟨_,(jK ((zB E (jx (zu zR zJ))).trans (Su (d:=.list [.int 17]) (YH (k:=7) (ju (Sb B 17))) (YH (k:=7) qB) (by decide +kernel)))).trans qC,(x.trans ⟨_,rfl⟩).app⟩
abbrev PE:Ev:=zP Qh (zi (zh zD (qA (zi WJ (zi QR zr))) (zP jq (zi zQ (zi Jn zr)))) zr)
def ou (s:qS n A):∃u K B,zP Zx (zi zQ (zi PE zr)) (fm κ n T r4 x5 x6 x7 x8 x9 x10 x11 x12 x13) A=.ok (zm u) B/\Tb u K/\(Rw u K).length≠K/\Kn n A B:=by
 obtain⟨r,a,j,p,q,L⟩:=JM (s.ext (Ext.one (o:=.lst [.int 5,.int 7]))) (m:=2) (by decide) (by decide)
 have h:a[A.length]? =some (.lst [.int 5,.int 7]):=q.kp.get qB (by have:=s.lt;lia)
 have e:∃i,i<12/\¬i<9/\PE (fm κ n T r4 x5 x6 x7 x8 x9 x10 x11 x12 x13) A=.ok (zm (bT i)) a:=by
  have g:∀v:Int,[(.int 5:W),.int 7][r]? =some (.int v)->zh zD (qA (zi WJ (zi QR zr))) (zP jq (zi zQ (zi Jn zr))) (fm κ n T r4 x5 x6 x7 x8 x9 x10 x11 x12 x13) A=.ok (.int v) a:=λv H=>(zB (jx (zu zR (zu zR zJ))) ((zT (zu (zj rfl) (zu zR zJ))).trans j)).trans (wM h H);have C:r=0∨r=1:=by lia
  rcases C with rfl|rfl
  ·exact⟨9,by decide,by decide,(zT (zu (g 5 rfl) zJ)).trans (mV _)⟩
  ·exact⟨10,by decide,by decide,(zT (zu (g 7 rfl) zJ)).trans (mW _)⟩
 obtain⟨i,c,d,E⟩:=e;obtain⟨u,K,l,b,w,f,S⟩:=mX c d q.st;exact⟨u,K,_,(zT (zu (zj rfl) (zu E zJ))).trans f,b,w,((Kn.ext s Ext.one).trans q).trans ⟨Kp.set,S⟩⟩
abbrev Vo (P:Addr):Ex:=jB (zh je (wZ 1 k9 P T3.idx (RG T3 0)) (qA (zi (zW (.int 16)) zr))) yT zV
def ox (h:Tb t K)(w:(Rw t K).length≠K)(H:A[1]? =some (.tab k9 Pt)):∃B,Vo Pt (fm κ n T r4 x5 x6 x7 x8 x9 x10 x11 (some b) (some (zm t))) A=.ok (.nx (fm κ n T r4 x5 x6 x7 x8 x9 x10 x11 (some b) (some (zm t)))) B/\Ext A B:=by have E:T3.m ([b,zm t].map some) A=.exc "NotWhole" (A++[.lst ((Rw t K).map zo)]):=(zT (ρ:=[some b,some (zm t)]) (zu (zj (i:=1) rfl) (zu (zj (i:=0) rfl) zJ))).trans (LG (rw_X h w A));have e:=UM (ρ:=fm κ n T r4 x5 x6 x7 x8 x9 x10 x11 (some b) (some (zm t))) (t:=T3) H (ws:=[b,zm t]) rfl E HG;exact⟨_,(jK ((zB e (jx (zu zR zJ))).trans (Su (d:=.list [.int 16]) (YH (k:=7) (ju (Sb _ 16))) (YH (k:=7) qB) (by decide +kernel)))).trans qC,(Ext.one.trans ⟨_,rfl⟩).app⟩
def oy (s:qS n A)(N:2<n)(c:A[2]? =some (.tab kx Pu))(b:W):∃l,NT Pu (.ref n) [b] A=.ok (.bl true) ((A++[O.lst [.clo 0 [] PJ]]).set n (.lst l)):=by
 obtain⟨x,y,h,_⟩:=id s;obtain⟨w,B,a,p,K,L,d,g⟩:=MK s h;obtain⟨t,o,E,S,j,v,H⟩:=M7 K.st;obtain⟨l,i,_,_⟩:=UI (f:=Ga) (us:=[]) g E;have e:WT [.int x,.bl y]=some l:=by unfold WT;rw[d];exact i
 refine⟨l,?_⟩;unfold NT;dsimp only;rw[h];dsimp only;rw[e];dsimp only;rw[ai ⟨N,s,c,b,rfl⟩]
structure jj (ns:bR)(Pt Pu:Addr)(A:Hx):Prop where
 h0:A[0]? =some (.ro (ns.map W.int))
 h1:A[1]? =some (.tab k9 Pt)
 h2:A[2]? =some (.tab kx Pu)
def jj.kp {P:Addr}(h:jj ns Pt P A)(k:Kp n A B)(H:2<n):jj ns Pt P B:=
 ⟨(k.at_ 0 (j0 h.h0) (by lia)).trans h.h0,(k.at_ 1 (j0 h.h1) (by lia)).trans h.h1,(k.at_ 2 (j0 h.h2) (by lia)).trans h.h2⟩
abbrev MX:Ev:=mQ jS (Rl 19 9)
abbrev BL (P p:Addr):Ex:=zy (qd 2 (zP Yo (zi zH (zi zG zr)))) (zy (qd 3 (zP Yj (zi zQ zr))) (zy (qd 4 (zP Jq (zi qv zr))) (zy (qd 5 MX) (zy (qd 6 (qA zr)) (zy (jD (qI qw) (zM 7) wB) (zy (jB (zh je (zP Ql (zi qv (zi (mQ jS (zN qL)) zr))) jN) yT zV) (zy (qd 8 (zP jq (zi zQ (zi (mQ qf (zN qL)) zr)))) (zy (qd 9 OT) (zy (jD (qI Vw) (zM 10) cB) (zy (qd 11 (zh zD (qA (zi qH (zi gU (zi (zW (.str "1")) (zi (qP (zi qT zr)) zr))))) (zP jq (zi zQ (zi WR zr))))) (zy (qd 12 (qA BE)) (zy (yx (j4 yk Jj BA)) (zy (qd 12 (zh zD Jj (zP jq (zi zQ (zi QR zr))))) (zy (NB P) (zy (qd 13 (zP Zx (zi zQ (zi PE zr)))) (zy (Vo P) (zy (jB (kh (Q9 1 k9 P (Z3 yY).idx zQ (NT p))) yT zV) zV)))))))))))))))))
def oz (h:Tb t K)(g:Or t K)(hw:(Rw t K).length=K)(s:qS n A)(M:A[r4]? =some (.lst ((Rw t K).map zo)))(N:r4≠n){Z:Ex}:
  ∃(y5:Option W) (b:Nat) (y7:Option W) (i r:Nat) (y:Option W) (v u:bR) (B:Hx),zy (qd 5 MX) (zy (qd 6 (qA zr)) (zy (jD (qI qw) (zM 7) wB) (zy (jB (zh je (zP Ql (zi qv (zi (mQ jS (zN qL)) zr))) jN) yT zV) (zy (qd 8 (zP jq (zi zQ (zi (mQ qf (zN qL)) zr)))) (zy (qd 9 OT) (zy (jD (qI Vw) (zM 10) cB) Z)))))) (fm κ n (zm t) r4 x5 x6 x7 x8 x9 x10 x11 x12 x13) A=Z (fm κ n (zm t) r4 y5 (rO b) y7 (iO i) (rO r) y x11 x12 x13) B/\Kn n A B/\
   B[b]? =some (.lst (v.map W.int))/\v.length=K/\B[r]? =some (.lst (u.map W.int))/\u.length=K/\i<K:=by
 have k8:=h.d.k8;obtain⟨x,B,e1,L,bx,k1⟩:=Nk (κ:=κ) (T:=zm t) (x5:=x5) (x6:=x6) (x7:=x7) (x8:=x8) (x9:=x9) (x10:=x10) (x11:=x11) (x12:=x12) (x13:=x13) (m:=19) (c:=9) s M N (by rw[af,hw];exact k8) (by decide) (by decide)
 rw[af,hw]at L;have Q:∀e∈x,-10<e/\e<10:=λe he=>by have:=bx e he;lia
 have J:=k1.kp.get M N;obtain⟨y7,p⟩:=Co (κ:=κ) (n:=n) (T:=zm t) (x7:=x7) (x8:=x8) (x9:=x9) (x10:=x10) (x11:=x11) (x12:=x12) (x13:=x13) h hw L J;have lv:=nV (x:=x) hw;have bv:=nW h hw L Q;have P:=nK h g hw L;rw[show((Rw t K).map λw=>wv K w x)=ZO t K x from rfl]at P
 generalize ZO t K x=v at p lv bv P;have l:∀e∈v,-1000<e/\e<1000:=λe he=>by have:=bv e he;lia
 have X:Ext B (B++[O.lst (v.map W.int)]):=Ext.one;have j:(B++[O.lst (v.map W.int)])[B.length]? =some (.lst (v.map W.int)):=qB;have n6:B.length≠n:=by have:=k1.st.lt;lia
 have z:=k1.trans (Kn.ext k1.st X);have e0:qd 6 (qA zr) (fm κ n (zm t) r4 (some (zo x)) x6 x7 x8 x9 x10 x11 x12 x13) B=.ok (.nx (fm κ n (zm t) r4 (some (zo x)) (rO B.length) x7 x8 x9 x10 x11 x12 x13)) (B++[.lst []]):=qi (jx zJ);generalize B++[O.lst (v.map W.int)]=C at p X j z;generalize B.length=b at e0 p j n6;have em:=Mt h hw lv l C;rw[P]at em;have el:=ZD (i:=6) (ρ:=fm κ n (zm t) r4 (some (zo x)) (rO b) y7 x8 x9 x10 x11 x12 x13) rfl j;rw[af,lv]at el;obtain⟨i,D,e5,hi,o,_⟩:=JM z.st (m:=(K:Int)) (by have:=h.d.k1;lia) (by lia)
 have I:i<K:=by lia
 have f:=o.kp.get j n6;obtain⟨u,r,E,e6,h9,p9,U,bu,Y⟩:=nX (κ:=κ) (T:=zm t) (r4:=r4) (i:=i) (x5:=some (zo x)) (x7:=y7) (x9:=x9) (x10:=x10) (x11:=x11) (x12:=x12) (x13:=x13) o.st f n6 (by lia) (by lia) bv
 have S:r≠n:=by have:=o.st.lt;lia
 have a:=(z.trans o).trans Y;have H:=Y.kp.get f n6;obtain⟨y,F,e7,q⟩:=AY (κ:=κ) (x5:=some (zo x)) (x7:=y7) (x8:=iO i) (x10:=x10) (x11:=x11) (x12:=x12) (x13:=x13) h hw a.st (a.kp.get M N) N H n6 lv l h9 S (U.trans lv) bu;refine⟨some (zo x),b,y7,i,r,y,v,u,F,?_,a.trans q,q.kp.get H n6,lv,q.kp.get h9 S,U.trans lv,I⟩;refine(zw ((qi (Ze e1)).trans rfl)).trans ((zw e0).trans ((zw p).trans ?_));refine(zw ((jK ((zB ((zT (zu (zj rfl) (zu (TX (i:=6) rfl j) zJ))).trans em) (zj rfl)).trans ((kv _ _ _).trans (by rw[ax rfl];rfl)))).trans qC)).trans ?_
 exact(zw ((qi ((zT (zu (zj rfl) (zu el zJ))).trans e5)).trans rfl)).trans ((zw ((qi e6).trans rfl)).trans (zw e7))
def oA {v u:bR}(P:1<=K)(M:K<=8)(s:qS n A)(f:A[r6]? =some (.lst (v.map W.int)))(J:v.length=K)(e:A[r9]? =some (.lst (u.map W.int)))(L:u.length=K)(n6:r6≠n)(N:r9≠n)(I:i<K){Z:Ex}:
  ∃(y:Option W) (b:W) (B:Hx),zy (qd 11 (zh zD (qA (zi qH (zi gU (zi (zW (.str "1")) (zi (qP (zi qT zr)) zr))))) (zP jq (zi zQ (zi WR zr))))) (zy (qd 12 (qA BE)) (zy (yx (j4 yk Jj BA)) (zy (qd 12 (zh zD Jj (zP jq (zi zQ (zi QR zr))))) Z))) (fm κ n T r4 x5 (rO r6) x7 (iO i) (rO r9) x10 x11 x12 x13) A=Z (fm κ n T r4 x5 (rO r6) x7 (iO i) (rO r9) x10 y (some b) x13) B/\Kn n A B/\Qk (NW K) B b:=by
 obtain⟨o,B,z,h,S,a⟩:=n0 (κ:=κ) (T:=T) (r4:=r4) (x5:=x5) (x6:=rO r6) (x7:=x7) (x8:=iO i) (x9:=rO r9) (x10:=x10) (x11:=x11) (x12:=x12) (x13:=x13) s;obtain⟨r,C,q,t⟩:=og (κ:=κ) (n:=n) (T:=T) (r4:=r4) (x5:=x5) (x7:=x7) (x8:=iO i) (x9:=rO r9) (x10:=x10) (x11:=some o) (x12:=x12) (x13:=x13) (a.kp.get f n6) J P M;obtain⟨w,D,p,x,Q⟩:=oh (κ:=κ) (n:=n) (T:=T) (r4:=r4) (K:=K) (i:=i) (x5:=x5) (x6:=rO r6) (x7:=x7) (x10:=x10) (x12:=rO r) (x13:=x13) (t.ext.at (a.kp.get e N)) (by lia) (by lia) h S
 obtain⟨U,g,_,_⟩:=t.at_;obtain⟨E,l,c⟩:=oj t (by lia) x Q
 obtain⟨b,F,j,H,d⟩:=om (κ:=κ) (T:=T) (r4:=r4) (x5:=x5) (x6:=rO r6) (x7:=x7) (x8:=iO i) (x9:=rO r9) (x10:=x10) (x11:=some o) (x12:=rO r) (x13:=x13) a.st c rfl rfl;refine⟨some o,b,F,?_,a.trans d,H⟩;exact(zw ((qi z).trans rfl)).trans ((zw ((qi q).trans rfl)).trans ((zw (wW ((ZC (zj rfl) g p).trans l))).trans (zw ((qi j).trans rfl))))
set_option tactic.hygienic true in
def AO (h:jj ns Pt Pu A){x2 x3 x4:Option W}:∃y2 y3 y4 y5 y6 y7 y8 y9 y Y H D B,BL Pt Pu [rO 0,iO k,x2,x3,x4,x5,x6,x7,x8,x9,x10,x11,x12,x13] A=.ok (.nx [rO 0,iO k,y2,y3,y4,y5,y6,y7,y8,y9,y,Y,H,D]) B/\jj ns Pt Pu B:=by
 have l2:=j0 h.h2;obtain⟨o,U,s1⟩:=js h.h0 k;have h1:jj ns Pt Pu (A++[o]):=⟨ju h.h0,ju h.h1,ju h.h2⟩;generalize hn:A.length=n at U s1;generalize hA1:A++[o]=A1 at U s1 h1;have N:2<n:=by lia
 obtain⟨t,K,o1,T,hw,g,E,s2⟩:=Az s1;have k2:Kn n A1 (A1.set n o1):=⟨Kp.set,s2⟩;generalize hA2:A1.set n o1=A2 at E s2 k2;have k8:=T.d.k8;have P:=T.al (by lia) A2
 have xE:Ext A2 (A2++[O.lst ((Rw t K).map zo)]):=Ext.one;have M:(A2++[O.lst ((Rw t K).map zo)])[A2.length]? =some (.lst ((Rw t K).map zo)):=qB;have n4:A2.length≠n:=by have:=s2.lt;lia
 have k3:=k2.trans (Kn.ext s2 xE);generalize A2++[O.lst ((Rw t K).map zo)]=A3 at P xE M k3;generalize A2.length=r4 at P M n4;obtain⟨y5,f,y7,i,r,y,v,u,A4,e5,C,h6,lv,h9,lu,hi⟩:=oz (κ:=k) (x5:=x5) (x6:=x6) (x7:=x7) (x8:=x8) (x9:=x9) (x10:=x10) (x11:=x11) (x12:=x12) (x13:=x13) (Z:=zy (qd 11 (zh zD (qA (zi qH (zi gU (zi (zW (.str "1")) (zi (qP (zi qT zr)) zr))))) (zP jq (zi zQ (zi WR zr))))) (zy (qd 12 (qA BE)) (zy (yx (j4 yk Jj BA)) (zy (qd 12 (zh zD Jj (zP jq (zi zQ (zi QR zr))))) (zy (NB Pt) (zy (qd 13 (zP Zx (zi zQ (zi PE zr)))) (zy (Vo Pt) (zy (jB (kh (Q9 1 k9 Pt (Z3 yY).idx zQ (NT Pu))) yT zV) zV)))))))) T g hw k3.st M n4;have n6:f≠n:=λz=>by
  subst z;obtain⟨c,b,e,_⟩:=C.st;rw[h6]at e
  have:=congrArg List.length (O.lst.inj (aC e))
  have E:=O.lst.inj (aC e);cases v with
  |nil=>cases E|cons a v=>cases v with|nil=>cases E|cons a' v=>cases E
 have n9:r≠n:=λz=>by
  subst z;obtain⟨c,b,e,_⟩:=C.st;rw[h9]at e;have E:=O.lst.inj (aC e);cases u with
  |nil=>cases E|cons a v=>cases v with|nil=>cases E|cons a' v=>cases E
 obtain⟨Y,b,A5,e6,k5,hb⟩:=oA (κ:=k) (T:=zm t) (r4:=r4) (x5:=y5) (x7:=y7) (x10:=y) (x11:=x11) (x12:=x12) (x13:=x13) (Z:=zy (NB Pt) (zy (qd 13 (zP Zx (zi zQ (zi PE zr)))) (zy (Vo Pt) (zy (jB (kh (Q9 1 k9 Pt (Z3 yY).idx zQ (NT Pu))) yT zV) zV)))) T.d.k1 k8 C.st h6 lv h9 lu n6 n9 hi;have l:=(k3.trans C).trans k5;have o5:=h1.kp l.kp N;obtain⟨A6,e7,I⟩:=ot (κ:=k) (n:=n) (r4:=r4) (x5:=y5) (x6:=rO f) (x7:=y7) (x8:=iO i) (x9:=rO r) (x10:=y) (x11:=Y) (x13:=x13) T hw o5.h1 hb;have q:=l.trans (Kn.ext l.st I);obtain⟨w,K',A7,e8,hu,L,k7⟩:=ou (T:=zm t) (κ:=k) (r4:=r4) (x5:=y5) (x6:=rO f) (x7:=y7) (x8:=iO i) (x9:=rO r) (x10:=y) (x11:=Y) (x12:=some b) (x13:=x13) q.st;have j:=q.trans k7;obtain⟨x,e9,X⟩:=ox (T:=zm t) (b:=b) (κ:=k) (n:=n) (r4:=r4) (x5:=y5) (x6:=rO f) (x7:=y7) (x8:=iO i) (x9:=rO r) (x10:=y) (x11:=Y) hu L (h1.kp j.kp N).h1;have p:=j.trans (Kn.ext j.st X);have J:=h1.kp p.kp N;obtain⟨l3,S⟩:=oy p.st N J.h2 b;have o9:jj ns Pt Pu ((x++[O.lst [.clo 0 [] PJ]]).set n (.lst l3)):=J.kp ((Kp.ext Ext.one).trans Kp.set) N;have Q:Q9 1 k9 Pt (Z3 yY).idx zQ (NT Pu) (fm k n (zm t) r4 y5 (rO f) y7 (iO i) (rO r) y Y (some b) (some (zm w))) x=.ok (.bl true) ((x++[O.lst [.clo 0 [] PJ]]).set n (.lst l3)):=by
  unfold Q9;rw[show zQ (fm k n (zm t) r4 y5 (rO f) y7 (iO i) (rO r) y Y (some b) (some (zm w))) x=.ok (.ref n) x from rfl,zK,J.h1]
  dsimp only;rw[ai ⟨rfl,rfl⟩];exact S
 refine⟨rO n,some (zm t),rO r4,y5,rO f,y7,iO i,rO r,y,Y,some b,some (zm w),_,?_,o9⟩;refine(zw ((qi ((zT (zu (zj rfl) (zu (zj rfl) zJ))).trans U)).trans rfl)).trans ?_;refine(zw ((qi ((zT (zu (zj rfl) zJ)).trans E)).trans rfl)).trans ?_;refine(zw (ρ1:=fm k n (zm t) r4 x5 x6 x7 x8 x9 x10 x11 x12 x13) (A1:=A3) (qi ((zT (zu (zj rfl) zJ)).trans P))).trans ?_;refine e5.trans (e6.trans ((zw e7).trans ((zw ((qi e8).trans rfl)).trans ((zw e9).trans ?_))));exact(zw ((jK (kR (k:=true) Q)).trans qC)).trans qC
end
def Sa (p P:Addr):Fn:=qz 14 (Sv Jq Jv Qh Qj Yo jq Zx Yj Ql yY (NT P) RG p)
def CY:Mb k9 kx Sa:=λU T p P=>by
 have n:zI (.ref 0) [.ro (U.map W.int),.tab k9 p,.tab kx P]=some (U.map W.int):=rfl;generalize A:[O.ro (U.map W.int),.tab k9 p,.tab kx P]=A0 at n;have h0:jj U p P A0:=by rw[<- A];exact⟨rfl,rfl,rfl⟩
 have E:mQ qf (zN zH) [rO 0,none,none,none,none,none,none,none,none,none,none,none,none,none] A0=.ok (.int U.length) A0:=by rw[jP (yc (w:=.ref 0) (A1:=A0) (zj rfl) n)];unfold qf;rw[af]
 have em:zh Sd qT (zh Sl (mQ qf (zN zH)) WJ) [rO 0,none,none,none,none,none,none,none,none,none,none,none,none,none] A0=
   .ok (.int (if (if (5:Int)<U.length then 5 else(U.length:Int)) > 1 then(if (5:Int)<U.length then 5 else(U.length:Int)) else 1)) A0:=
  (zB (zR (w:=.int 1)) ((zB E (zR (w:=.int 5))).trans rfl)).trans rfl
 generalize t:(if (if (5:Int)<U.length then 5 else(U.length:Int)) > 1 then(if (5:Int)<U.length then 5 else(U.length:Int)) else 1)=v at em;have H:jv v=true:=by
  have:0<=v/\v<1000:=by
   rw[<- t]
   split<;>split<;>lia
  obtain⟨k,rfl⟩:=a5 this.1;exact ZT (by lia)
 obtain⟨o,B,e,_,_⟩:=yH (j:=jQ 0 v.toNat) (st:=turn (zM 1) (BL p P)) (N:=v.toNat) (I:=λ_ ρ B=>jj U p P B/\∃l f d y4 y5 y6 y7 X c b a Y y,ρ=[rO 0,l,f,d,y4,y5,y6,y7,X,c,b,a,Y,y])
  (λi ρ B u ⟨h0,l,f,d,y4,y5,y6,y7,X,c,b,a,Y,y,h⟩=>by subst h;obtain⟨S,Q,M,L,K,J,D,C,r,q,Z,z,x,e,g⟩:=AO (k:=i) (x2:=f) (x3:=d) (x4:=y4) (x5:=y5) (x6:=y6) (x7:=y7) (x8:=X) (x9:=c) (x10:=b) (x11:=a) (x12:=Y) (x13:=y) h0;refine⟨_,_,x,ym u,(jO (ρ1:=[rO 0,iO i,f,d,y4,y5,y6,y7,X,c,b,a,Y,y]) ?_).trans e,g,_,_,_,_,_,_,_,_,_,_,_,_,_,rfl⟩;rw[Int.zero_add];rfl)
  (λρ B _=>yj) v.toNat 0 [rO 0,none,none,none,none,none,none,none,none,none,none,none,none,none] A0 (by lia) ⟨h0,_,_,_,_,_,_,_,_,_,_,_,_,_,rfl⟩
 refine⟨B,qV ?_⟩;unfold Sv;exact(zw ((jy (yI em H)).trans e)).trans (qk (qN zR))
section
variable {K:Frag}
def RN (Z:Zz K h mg){j:Nat}{PG:Zh}{l:Nat->Fn}(H:∀k,Jf P w K mg base j (PG k) (l k)):qR P w K mg base (j+1) "_law_refused" 1 ((qz 4 (Kv PG l))):=by obtain⟨f,fd,F,a⟩:=Z.T.IW;exact(Hh (k:=j) Z.B Z.C Z.T.zep F (mg_of Z.X Z.G a) (ao _) H)
def oB (Z:Zz K h mg){c p:Addr}(H:tabIn K "_law_no_table_right"=some (c,p))(e:BMain mg base)(C:CodeHd base c p)(g:Obj->Addr->Obj->List V->Prop)(d:∀b,gn base b->Qv P w K mg b 10 g λws A=>(Z3 yY).m (ws.map some) A):qR P w K mg base 13 "_law_no_table_right" 2 (XU p g):=by obtain⟨f,fd,F,a⟩:=Z.T.Ig;exact Ih (k:=12) (j:=10) (kk:=12) Z.B F a H (mg_of Z.X Z.G a) e C (IK Z).up (HH Z).up (by decide) (λbase=>(Ux Z).up) d (λt base PG L=>(RN Z L).imp λu A _=>Mn u A)
def oC (Z:Zz K h mg){c d p:Addr}{fd:FuncData}(F:wm K "law" "law" JT f fd)(n:nsIn K mainGlobals "law"=some (some (.ref f)))(i:tabIn K "law"=some (c,Pt))(u:tabIn K "_law_no_table_right"=some (d,p))(H:BMain mg base)(C:CodeHd base c Pt)(D:CodeHd base d p):yt P w K mg base kO 14 f fd ["_law_script"] (Zq K 1 (Sa Pt p)):=
 o_law (k:=13) (j:=9) (kk:=11) Z.B F n i H C (Io Z).up (Ep Z).up (Gg Z).up (F3 Z).up (FF Z).up (Jt Z).up (RD Z).up (IA Z).up (BF Z).up (by decide) (λbase=>(Ux Z).up) (kn:=13) (fN:=XU p) (NT:=NT p) (by decide) (λe S q g=>oB Z u (let ⟨l,o,a,b,c,d,r⟩:=H;⟨l,o,a,b,c,S _ _ d,r⟩) (D.keeps S) q g) hand (λt base PG L=>(RN Z L).imp λU A _=>Mn U A)
def all_mk {l:PySem.W.OpenLaw}{fa P:Addr}(X:K.In h)(Gl:h.Ns mainGlobals mg)(b:mg "law"=some (.ref fa))(T:Tx K)(t:∃c,tabIn K "law"=some (c,Pt)/\codeHdIn K c Pt=true)(H:∃c,tabIn K "_law_no_table_right"=some (c,P)/\codeHdIn K c P=true):
  ∃fd:FuncData,(∀(s:Shared)(v:Value),BindsTo s fd ⟨[v],[]⟩ [("_law_script",v)])/\∀base:Heap,K.In base->base.Ns mainGlobals mg->BMain mg base->yt l.prog w K mg base kO 14 fa fd ["_law_script"] (Zq K 1 (Sa Pt P)):=by
 obtain⟨c,t,g⟩:=t;obtain⟨d,H,u⟩:=H;obtain⟨f,fd,F,a⟩:=T.zc8;have e:=b.symm.trans (mg_of X Gl a);cases e;obtain⟨n,j,kV,D,p,A,C,ct,o,rfl,L,i⟩:=id F.ex;exact⟨_,λs v=>.of_eq rfl,λbase kb nb B=>oC (zz X Gl T) F a t H B (codeHd_of_K kb g) (codeHd_of_K kb u)⟩
end
end G
namespace PySem.W.Fast
def tw2986050668950870772:Nat:=0
def tw7582374743841771563:Nat:=0
def tw7812851005482630069:Nat:=0
def tw6682654736773295406:Nat:=0
def tw11950177226514895754:Nat:=0
def tw7089648608905281510:Nat:=0
def tw5656075995748492608:Nat:=0
def tw7365463218969019424:Nat:=0
def tw15773371175416180566:Nat:=0
def tw6595047739483715937:Nat:=0
def tw4352729181700260044:Nat:=0
def tw17072186711828642299:Nat:=0
def tw17693108003436370958:Nat:=0
def tw14702038814649189670:Nat:=0
def tw6515425836908079682:Nat:=0
def tw6104390090153483514:Nat:=0
def tw3771781097566651409:Nat:=0
def tw10220499402278634734:Nat:=0
def tw14721652254737231418:Nat:=0
def tw13801837760463677454:Nat:=0
def tw15413761885865854144:Nat:=0
def tw12524417402319482379:Nat:=0
def tw207582998979540834:Nat:=0
def tw14050212754694816798:Nat:=0
def tw13092158292422074900:Nat:=0
def tw811627239653478807:Nat:=0
def tw596755090685667050:Nat:=0
def tw1633144059805823699:Nat:=0
def tw16366665701378329656:Nat:=0
def tw6249858068448960066:Nat:=0
def tw2693215967253875093:Nat:=0
def tw13370397125638228316:Nat:=0
def tw13720320514148241087:Nat:=0
def tw11569116628523323344:Nat:=0
def tw935318978478406778:Nat:=0
def tw7395446610188346710:Nat:=0
def tw6584001802073062528:Nat:=0
def tw2994571927242745272:Nat:=0
def tw15551697800701201653:Nat:=0
def tw11514822183367276365:Nat:=0
def tw16357870618293713712:Nat:=0
def tw12397745429914677228:Nat:=0
def tw4412941791314282538:Nat:=0
def tw9401357774097301148:Nat:=0
def tw5304075846010548443:Nat:=0
def tw3208488781346530466:Nat:=0
def tw5997125352942499671:Nat:=0
def tw12005205962732208353:Nat:=0
def tw6502239612266175837:Nat:=0
def tw9316663101973044418:Nat:=0
def tw8107474268819585972:Nat:=0
def tw5426726822998981095:Nat:=0
end PySem.W.Fast
open PySem PySem.W PyProof.Rows
set_option maxRecDepth 100000 in
set_option maxHeartbeats 0 in
theorem PySem.Challenge.cw_nearkinds_k32_mixes_by_their_worths_holds : PySem.Challenge.rw_nearkinds_k32_mixes_by_their_worths.Holds := by
 w_on;o_law;k_head;(case hw=>w_witness2)
 k_fill
 refine' Mi.zcV (y := "_law_no_table_right") (l:=PySem.Challenge.rw_nearkinds_k32_mixes_by_their_worths) (k:=14) (x := "_law_script") G.CY rfl rfl ⟨rfl,by decide,by decide,rfl⟩ ?ne (λw h Y=>PySem.W.km_in_of Y) (λw h Y=>⟨km_tabs_of Y _ ?m1,km_tabs_of Y _ ?m2⟩) ?ht ?hKP ?hu ?hKU ?F
 case m1=>exact aA _ (aG ..)
 case m2=>exact aG ..
 case ne=>decide
 case ht=>exact λp=>by kernel_rfl
 case hKP=>exact λp=>by kernel_rfl
 case hu=>exact λp=>by kernel_rfl
 case hKU=>exact λp=>by kernel_rfl
 case F=>
  intro w mg fa h KX Gl hmg ht hu;have T:G.Tx (L2.LO KX):=by
   dsimp only [L2.LO]
   apply G.Tx.mk<;>first | (refine' Mi.zc1 ?a ?l ?c ?k;(case a=>k_is);(case l=>k_is);(case c=>k_is);(case k=>k_is)) | (refine' Mi.zdE ?a;(case a=>k_is)) | k_is|kernel_rfl
  exact G.all_mk KX Gl hmg T ht hu
