import PyProof.Rows.All
import Wide.All
import OpenK.AllK
import Lean
import PySem.Challenge.RW_nearkinds_k51_papers_of_lots
set_option compiler.extract_closed false
set_option tactic.hygienic false
set_option genSizeOf false
noncomputable section
open PySem.W (Frag)
open List (all_map any_cons ext_getElem? filter_append find?_cons forIn_cons getElem_inj length_nil length_set lookup_cons map_eq_nil_iff map_id map_nil mem_of_getElem? mem_range nil_append of_mem_zip range'_succ range_eq_range' reverse_cons sum_append sum_cons take_zero toList_toArray)
open Nat (add_comm le_add_right le_succ lt_trans mul_le_mul)
open Int (add_zero emod_nonneg mul_one mul_zero one_mul)
open Bool (not_eq_true')
open Option (any_eq_true isSome_some)
open PySem.W (CodeHd callWith_K cellsFrom_some codeHdIn codeHd_of_K codeIn envX fnOf hideAll hideAll_none hideAll_size keepIn kia_one kitAny kitOne kitx_bool kitx_dict kitx_int kitx_list kitx_none kitx_str kitx_tuple kla_fn kla_obj km_tabs_of nsIn of_hideAll tabIn tabObj)
open PySem.F (args_tuple_add_2 entry_tuple_add slot_set_iter slot_tuple_add)
abbrev aa:=@List.getElem?_eq_getElem
abbrev ae:=@List.getD_eq_getElem?_getD
abbrev af:=@PySem.Heap.get?_push_of_some
abbrev ag:=@decide_eq_true_iff
abbrev ah:=@List.length_map
abbrev ai:=@List.length_append
abbrev aj:=@if_pos
abbrev ak:=@Bool.and_eq_true
abbrev ao:=@List.mem_cons_of_mem
abbrev aq:=@List.getElem?_append_left
abbrev ar:=@List.getElem?_map
abbrev au:=@List.mem_cons_self
abbrev av:=@if_neg
abbrev aw:=@List.getElem?_eq_none
abbrev ax:=@Nat.le_refl
abbrev ay:=@PySem.Heap.get?_push_size
abbrev az:=@List.getElem?_append_right
abbrev aA:=@List.length_singleton
abbrev aB:=@Option.some.inj
abbrev aC:=@decide_eq_true
abbrev aD:=@List.size_toArray
abbrev aE:=@Nat.lt_of_lt_of_le
abbrev aF:=@decide_eq_false
abbrev aG:=@PySem.Heap.lt_size
abbrev aH:=@List.getElem?_set_ne
abbrev aJ:=@List.getElem_mem
abbrev aK:=@List.getElem?_set_self
abbrev aL:=@beq_iff_eq
abbrev aM:=@Nat.ne_of_lt
abbrev aN:=@List.length_range
abbrev aP:=@Bool.false_ne_true
abbrev aQ:=@Int.toNat_natCast
abbrev aR:=@PySem.Heap.get?_update_other
abbrev aS:=@List.map_append
abbrev aT:=@Array.length_toList
abbrev aU:=@List.map_map
abbrev aV:=@List.getElem?_range
abbrev aW:=@List.map_congr_left
abbrev aX:=@List.append_assoc
abbrev aY:=@Int.eq_ofNat_of_zero_le
abbrev aZ:=@Nat.lt_irrefl
abbrev a3:=@List.flatten_cons
abbrev a4:=@PySem.Heap.get?_update_self
abbrev a5:=@List.map_cons
abbrev a6:=@List.mem_append_right
abbrev a7:=@List.length_cons
abbrev a8:=@PySem.W.mg_none_of
abbrev a9:=@List.drop_eq_getElem_cons
abbrev ba:=@Bool.or_eq_true
abbrev bb:=@Nat.lt_succ_of_lt
abbrev bc:=@List.length_take
abbrev bf:=@List.getElem_of_mem
abbrev bg:=@List.ext_getElem
abbrev bh:=@List.all_eq_true
abbrev bj:=@PySem.Heap.size_push
abbrev bo:=@Nat.le_trans
abbrev bp:=@Nat.lt_of_succ_lt_succ
abbrev bq:=@List.append_nil
abbrev br:=@Nat.ne_of_gt
abbrev bw:=@List.range_succ
abbrev bx:=@List.not_mem_nil
abbrev bz:=@Nat.lt_succ_self
abbrev bC:=@List.length_filter_le
abbrev bD:=@List.mem_filter
abbrev bE:=@Array.getElem?_toList
abbrev bF:=@List.getElem?_replicate
abbrev bG:=@List.take_length
abbrev bH:=@List.drop_length
abbrev bI:=@Int.zero_add
abbrev bJ:=@Nat.le_of_lt
abbrev bK:=@List.replicate_succ
abbrev bL:=@List.mem_cons
abbrev bM:=@List.filterMap_cons
abbrev bN:=@List.length_replicate
abbrev bO:=@Nat.not_lt_zero
abbrev bP:=@Bool.false_eq_true
abbrev bQ:=@List.length_drop
abbrev bR:=@Nat.zero_le
abbrev bS:=@PySem.W.hideAll_get
abbrev bT:=@Int.emod_lt_of_pos
abbrev bU:=@List.all_append
abbrev bV:=@beq_self_eq_true
abbrev bW:=@List.pairwise_lt_range
abbrev bX:=@PySem.W.mg_of
abbrev bY:=List (List Int)
abbrev bZ:=List Int
abbrev b0:=List PySem.Value
abbrev b8:=List PySem.Addr
abbrev b9:=List (PySem.Addr×PySem.Obj)
abbrev cb:=List Nat
abbrev cc:=Option PySem.Value
abbrev cf:=List PySem.Str
abbrev cg:=PySem.Value->PySem.Shared->Prop
abbrev ck:=List PySem.Expr
abbrev cm:=Option Int
abbrev cn:=PySem.Str->Option PySem.Value
abbrev cq:=List PySem.Env
abbrev cu:=List (PySem.Str×PySem.Addr)
abbrev cw:=List PySem.Keyword
abbrev cx:=Option PySem.Addr
abbrev cy:=List PySem.Stmt
abbrev cz:=@PySem.wpAny_bind
abbrev cA:=@PySem.wpAny_pure
abbrev cD:=@List.getElem?_eq_some_iff
abbrev cB:=@List.mem_cons
abbrev cF:=@List.all_eq_true
abbrev cE:=@List.mem_range
abbrev cC:=@List.mem_map
abbrev cG:=@List.mem_singleton
abbrev cH:=@List.mem_append
set_option Elab.async false
set_option linter.all false
set_option maxRecDepth 1000000
set_option maxHeartbeats 4000000
variable {XP:(PySem.Str->Option PySem.Value)->PySem.Heap->Prop}{D Pt a b c f:PySem.Addr}{oF:Array (Option PySem.Value)}{items:Array PySem.Value}{oy:Bool}{op:PySem.CmpOp}{env:PySem.Env}{e o6 tg:PySem.Expr}{fd:PySem.FuncData}{base h h':PySem.Heap}{n9:List (PySem.Addr×PySem.Obj)}{es:List (Int×PySem.Value)}{L ks t:bY}{o8:List (PySem.Str×PySem.Addr)}{fp φ:List PySem.Addr}{om gs:List PySem.Comprehension}{oC ifs:List PySem.Expr}{l ns r:bZ}{cap:cb}{body:List PySem.Stmt}{N ps:List PySem.Str}{ot us:List PySem.Value}{M:PySem.Model}{i j kk n t':Nat}{μ:Nat->Nat->Int}{oz oh p og ou:PySem.Pos}{P:PySem.Program}{sc scope:PySem.Scope}{s s':PySem.Shared}{qual x:PySem.Str}{mg:PySem.Str->Option PySem.Value}{α:Type}{u:PySem.Value}{E Q:PySem.Value->PySem.Shared->Prop}{w:PySem.World}
namespace L2
open PySem PySem.Spec PyProof.Rows
noncomputable abbrev Key:=Sum Int Str
noncomputable def Y1:Key->Value->Bool
 |.inl k,v=>Value.isInt k v|.inr x,v=>Value.isStrOf x v
noncomputable def cI (w:World):Key->Int
 |.inl k=>hashInt k|.inr x=>hashStr w x
theorem ZL:∀{k:Key}{v:Value},Y1 k v=true->(∃i t,k=Sum.inl i/\v=Value.int i t)∨(∃x t,k=Sum.inr x/\v=Value.str x t)
 |.inl i,v,h=>by obtain⟨t,e⟩:=Value.isInt_shape h;exact .inl ⟨i,t,rfl,e⟩
 |.inr x,v,h=>by obtain⟨t,e⟩:=Value.isStrOf_shape h;exact .inr ⟨x,t,rfl,e⟩
def Cf (i:Int)(t:Tok):Y1 (.inl i) (.int i t)=true:=by simp[Y1,Value.isInt]
def Dt (x:Str)(t:Tok):Y1 (.inr x) (.str x t)=true:=by simp[Y1,Value.isStrOf]
def cJ (a b:Int):decide ((Sum.inl a:Key)=Sum.inl b)=(a==b):=by
 by_cases e:a=b
 ·subst e;simp
 ·have h:¬(Sum.inl a:Key)=Sum.inl b:=λq=>e (Sum.inl.inj q)
  rw[aF h];exact(beq_eq_false_iff_ne.mpr e).symm
def cK (a b:Str):decide ((Sum.inr a:Key)=Sum.inr b)=decide (a=b):=by
 by_cases e:a=b
 ·subst e;simp
 ·have h:¬(Sum.inr a:Key)=Sum.inr b:=λq=>e (Sum.inr.inj q)
  rw[aF h,aF e]
def cL (a:Int)(b:Str):decide ((Sum.inl a:Key)=Sum.inr b)=false:=aF (λq=>nomatch q)
def cM (a:Str)(b:Int):decide ((Sum.inr a:Key)=Sum.inl b)=false:=aF (λq=>nomatch q)
def Zj (p:Program)(w:World):PySem.KeyKind p w Key where
 is:=Y1
 hash:=cI w
 inj:=λv a b f c=>by
  rcases ZL f with ⟨i,t,rfl,rfl⟩|⟨x,t,rfl,rfl⟩
  ·rcases ZL c with ⟨j,u,rfl,e⟩|⟨y,u,rfl,e⟩
   ·injection e with E _;rw[E]
   ·exact nomatch e
  ·rcases ZL c with ⟨j,u,rfl,e⟩|⟨y,u,rfl,e⟩
   ·exact nomatch e
   ·injection e with E _;rw[E]
 byValue:=λk v h=>by rcases ZL h with ⟨i,t,rfl,rfl⟩|⟨x,t,rfl,rfl⟩<;>rfl
 pyHash:=λH h=>by
  rcases ZL H with ⟨i,t,rfl,rfl⟩|⟨x,t,rfl,rfl⟩
  ·exact wpAny_pyHash_int h
  ·exact wpAny_pyHash_str h
 eqBool:=λd H h=>by
  rcases ZL d with ⟨i,t,rfl,rfl⟩|⟨x,t,rfl,rfl⟩
  ·rcases ZL H with ⟨j,u,rfl,rfl⟩|⟨y,u,rfl,rfl⟩
   ·rw[cJ]at h;exact wpAny_eqBool_int h
   ·rw[cL]at h;exact SeqAt.EqAt.int_str i t y u _ _ _ _ h
  ·rcases ZL H with ⟨j,u,rfl,rfl⟩|⟨y,u,rfl,rfl⟩
   ·rw[cM]at h;exact SeqAt.EqAt.str_int x t j u _ _ _ _ h
   ·rw[cK]at h;exact wpAny_eqBool_str h
 «strs»:=λk x t v h=>by
  rcases ZL h with ⟨i,u,rfl,e⟩|⟨y,u,rfl,e⟩
  ·exact nomatch e
  ·injection e with E _
   subst E;cases v<;>rfl
def Ee (p:Program)(w:World)(i:Int)(t:Tok):(Zj p w).is (.inl i) (.int i t)=true:=Cf i t
def F8 (p:Program)(w:World)(x:Str)(t:Tok):(Zj p w).is (.inr x) (.str x t)=true:=Dt x t
inductive V where
 |non|bl (b:Bool)|int (i:Int)|str (x:Str)|ref (a:Addr)|ty (n:String)
 deriving DecidableEq
def RelV:V->Value->Prop
 |.non,u=>u=Value.none|.bl b,u=>u=Value.bool b|.int i,u=>∃t,u=Value.int i t|.str x,u=>∃t,u=Value.str x t|.ref a,u=>u=Value.ref a|.ty n,u=>u=Value.type n
abbrev Vals:List V->List Value->Prop:=Paired RelV
theorem Vals.length {x:List V}(r:Vals x us):x.length=us.length:=Paired.length r
theorem Vals.get:∀{X:List V}{U:b0}{i:Nat}{x:V},Vals X U->X[i]? =some x->∃u,U[i]? =some u/\RelV x u
 |_,_,0,_,.cons r _,e=>by simp at e;subst e;exact⟨_,rfl,r⟩|_,_,i+1,x,.cons _ t,e=>by
  obtain⟨u,H,h⟩:=Vals.get t (by simpa using e)
  exact⟨u,by simpa using H,h⟩
theorem Vals.set {x:V}(r:RelV x u):∀{X:List V}{U:b0}(i:Nat),Vals X U->Vals (X.set i x) (U.set i u)
 |_,_,_,.nil=>.nil|_,_,0,.cons _ t=>.cons r t|_,_,i+1,.cons q t=>.cons q (Vals.set r i t)
theorem Vals.append:∀{x y:List V}{u w:b0},Vals x u->Vals y w->Vals (x++y) (u++w)
 |_,_,_,_,.nil,s=>s|_,_,_,_,.cons r t,s=>.cons r (Vals.append t s)
theorem Vals.take:∀{x:List V}{u:b0}(n:Nat),Vals x u->Vals (x.take n) (u.take n)
 |_,_,0,_=>.nil|_,_,_+1,.nil=>.nil|_,_,n+1,.cons r t=>.cons r (Vals.take n t)
theorem Vals.drop:∀{x:List V}{u:b0}(n:Nat),Vals x u->Vals (x.drop n) (u.drop n)
 |_,_,0,r=>r|_,_,_+1,.nil=>.nil|_,_,n+1,.cons _ t=>Vals.drop n t
def Vals.none_of:∀{x:List V}{u:b0}{i:Nat},Vals x u->x[i]? =none->u[i]? =none:=λ {x u i} r e=>by have H:=r.length;have h:=List.getElem?_eq_none_iff.mp e;exact List.getElem?_eq_none_iff.mpr (by lia)
def Wo:Option V->Option Value->Prop
 |some v,some u=>RelV v u|none,none=>True|_,_=>False
def KV {a:Type}:List (a×V)->List (a×Value)->Prop:=Paired λ(p:a×V) (q:a×Value)=>p.1=q.1/\RelV p.2 q.2
noncomputable def kV:Key->V
 |.inl i=>.int i|.inr x=>.str x
inductive HO where
 |lst (xs:List V)
 |tup (xs:List V)
 |dK (oo:List (Key×V))
 |set (S:Int->Bool) (n:Nat)
 |own (x:Addr)
 |xd (fs:List (Str×V))
 |rng (lo hi:Int)
 |frz (o:Obj) (u:HO)
 |tbl (ps:Array Value)
 |ext (φ:Heap->Prop)
noncomputable abbrev Hp:=Addr->Option HO
noncomputable def upd (H:Hp)(a:Addr)(o:HO):Hp:=λb=>if b=a then some o else H b
def jD {H:Hp}{o:HO}:upd H a o a=some o:=by unfold upd;rw[aj rfl]
def qh {H:Hp}{o:HO}(h:b≠a):upd H a o b=H b:=by unfold upd;rw[av h]
def YU {H:Hp}{o u:HO}(h:H a=some o)(c:H b=some u)(d:o≠u):a≠b:=by intro e;subst e;rw[h]at c;exact d (aB c)
def kI {H:Hp}{o:HO}(h:H a=some o)(c:H b=none):a≠b:=by intro e;subst e;rw[h]at c;cases c
def ZY (h:Heap)(a:Addr)(i:Array Value):Prop:=∃o,h.get? a=some o/\(o.cls=.type "tuple" /\ o.dict=none)/\∃n,o.data=.seq i n
def ZY.tup {h:Heap}{a:Addr}{i:Array Value}(x:ZY h a i):IsTup h a i:=let ⟨o,e,c,d⟩:=x;⟨o,e,c.1,d⟩
def ZY.new (h:Heap)(i:Array Value):ZY (h.push { cls:=.type "tuple",data:=.seq i }) h.objs.size i:=⟨_,ay h rfl,⟨rfl,rfl⟩,0,rfl⟩
section
variable (P:Program)(w:World)
def jk (H:Hp)(h:Heap)(a:Addr):HO->Prop
 |.lst x=>x.length<=sizeLine/\∃(ot:b0) (n:Nat),Vals x ot/\h.get? a=some { cls:=.type "list",data:=.seq ot.toArray n }
 |.tup x=>x.length<=sizeLine/\∃ot:b0,Vals x ot/\ZY h a ot.toArray|.dK K=>K.length<=sizeLine/\(a==sysModules)=false/\∃s,KV K s/\h.DictOf (Zj P w) a s|.set S n=>h.SetOf (intKind P w) a S n|.own _=>∃o,h.get? a=some o|.xd fs=>∃M,h.Ns1 a M/\∀f,Wo (fs.lookup f) (M f)|.rng l i=>∃t u v,h.get? a=some { cls:=.type "range",data:=.fields #[.int l t,.int i u,.int 1 v] }
 |.frz o u=>h.get? a=some o/\jk H h a u|.tbl p=>h.get? a=some { cls:=.none,data:=.fields p }|.ext b=>b h/\(∃o,h.get? a=some o)/\∀d c:Heap,b d->(∀o,d.get? a=some o->c.get? a=some o)->b c
def qY (H:Hp)(h:Heap):Prop:=∀a o,H a=some o->jk P w H h a o
end
section
variable {H H':Hp}{o:HO}
theorem jk.lt (x:jk P w H h a o):a<h.objs.size:=by
 cases o with|lst X=>obtain⟨_,_,_,_,e⟩:=x;exact aG e|tup X=>obtain⟨_,_,_,p⟩:=x;exact p.tup.lt|dK K=>obtain⟨_,_,_,_,o,_,_,e,_⟩:=x;exact aG e|set S n=>obtain⟨o,_,_,_,e,_⟩:=x;exact aG e|own y=>obtain⟨_,e⟩:=x;exact aG e|xd fs=>obtain⟨_,⟨_,_,_,e,_⟩,_⟩:=x;exact aG e|rng l i=>obtain⟨_,_,_,e⟩:=x;exact aG e|frz ob u=>obtain⟨e,_⟩:=x;exact aG e|tbl s=>exact aG (show h.get? a=some _ from x)|ext b=>obtain⟨_,⟨_,e⟩,_⟩:=x;exact aG e
def jk.stay (x:jk P w H h a o)(k:∀b u,(b=a∨H b=some (.own a))->h.get? b=some u->h'.get? b=some u)
  (j:∀b,H b=some (.own a)->H' b=some (.own a))(g:∀b xs,H b=some (.tup xs)->H' b=some (.tup xs)):jk P w H' h' a o:=by
 induction o with
 |lst xs=>obtain⟨z,i,n,r,e⟩:=x;exact⟨z,i,n,r,k _ _ (.inl rfl) e⟩|tup xs=>obtain⟨z,i,r,ob,e,c⟩:=x;exact⟨z,i,r,ob,k _ _ (.inl rfl) e,c⟩|dK K=>obtain⟨z,y,l,r,ob,E,d,e,c⟩:=x;exact⟨z,y,l,r,ob,E,d,k _ _ (.inl rfl) e,c⟩|set S n=>obtain⟨ob,E,d,t,e,c⟩:=x;exact⟨ob,E,d,t,k _ _ (.inl rfl) e,c⟩|own y=>obtain⟨ob,e⟩:=x;exact⟨ob,k _ _ (.inl rfl) e⟩|xd fs=>obtain⟨M,⟨f,E,d,e,c⟩,r⟩:=x;exact⟨M,⟨f,E,d,k _ _ (.inl rfl) e,c⟩,r⟩|rng L C=>obtain⟨t,u,v,e⟩:=x;exact⟨t,u,v,k _ _ (.inl rfl) e⟩|frz ob u I=>obtain⟨e,q⟩:=x;exact⟨k _ _ (.inl rfl) e,I q⟩|tbl B=>
  have e:=x;exact k a _ (.inl rfl) e
 |ext A=>obtain⟨p,⟨o,e⟩,s⟩:=x;exact⟨s _ _ p λo q=>k _ _ (.inl rfl) q,⟨o,k _ _ (.inl rfl) e⟩,s⟩
theorem qY.lt (x:qY P w H h)(e:H a=some o):a<h.objs.size:=(x a o e).lt
def qY.fresh (x:qY P w H h)(e:h.objs.size<=a):H a=none:=by
 cases q:H a with|none=>rfl|some u=>exact absurd (aE (x.lt q) e) (aZ _)
def qY.kept (x:qY P w H h)(k:∀b u,h.get? b=some u->h'.get? b=some u):qY P w H h':=λa o e=>
 (x a o e).stay (λb u _ q=>k b u q) (λ_ q=>q) λ_ _ q=>q
def qY.laid (x:qY P w H h)(k:∀b u,h.get? b=some u->h'.get? b=some u)(p:h.objs.size<=a)(new:jk P w (upd H a o) h' a o):qY P w (upd H a o) h':=λb u e=>by
 have n:=x.fresh p
 by_cases d:b=a
 ·subst d;rw[jD]at e;cases e;exact new
 ·rw[qh d]at e
  exact(x b u e).stay (λc v _ q=>k c v q) (λc q=>by rw[qh (kI q n)];exact q) λc X q=>by rw[qh (kI q n)];exact q
end
def Rd (H:Hp)(a:Addr)(u:HO):Prop:=H a=some u∨∃o,H a=some (.frz o u)
def Rd.ok {H:Hp}{u:HO}(r:Rd H a u)(x:qY P w H h):jk P w H h a u:=by
 rcases r with r|⟨o,r⟩
 ·exact x a u r
 ·obtain⟨_,q⟩:=x a _ r
  exact q
def WG:Option HO->Prop
 |some (.lst _)=>True|some (.dK _)=>True|some (.set _ _)=>True|some (.ext _)=>True|_=>False
section
variable {H:Hp}{x e:Addr}{o':HO}
def qY.write (ok:qY P w H h)(M:WG (H x))(i:e=x∨H e=some (.own x))(k:∀b u,b≠e->h.get? b=some u->h'.get? b=some u)(o:∃u,h'.get? e=some u)
  (new:jk P w (upd H x o') h' x o'):qY P w (upd H x o') h':=λb u q=>by
 have n:∀c y,H c=some (.own y)->c≠x:=λc y r z=>by subst z;rw[r]at M;exact M
 by_cases f:b=x
 ·subst f;rw[jD]at q;cases q;exact new
 ·rw[qh f]at q
  by_cases a:b=e
  ·have Q:H b=some (.own x):=by
    rcases i with z|z
    ·exact absurd (a.trans z) f
    ·rw[a];exact z
   rw[q]at Q;cases Q;obtain⟨v,g⟩:=o;exact⟨v,by rw[a];exact g⟩
  ·refine(ok b u q).stay (λc v d r=>k c v ?_ r) (λc r=>by rw[qh (n c b r)];exact r) λc X r=>by rw[qh ((λc X r z=>by subst z;rw[r]at M;exact M) c X r)];exact r
   rcases d with rfl|d
   ·exact a
   ·rintro rfl
    rcases i with z|z
    ·exact n c b d z
    ·rw[d]at z;cases z;exact f rfl
end
structure Un (fs ex:b8)(H H':Hp)(h h':Heap):Prop where
 keep:∀b o,h.get? b=some o->H b=none->b∉fs->b∉ex->h'.get? b=some o
 slot:∀b o,h.get? b=some o->H b=none->b∈fs->b∉ex->∃sl,h'.get? b=some { o with slots:=sl }
 free:∀b o,h.get? b=some o->H b=none->b∉ex->H' b=none
 there:∀b o,h.get? b=some o->b∉ex->∃o',h'.get? b=some o'
 tups:∀b xs,H b=some (.tup xs)->H' b=some (.tup xs)
 frzs:∀b o u,H b=some (.frz o u)->H' b=some (.frz o u)
 tbls:∀b ps,H b=some (.tbl ps)->∃more,H' b=some (.tbl (ps++more))
section
variable {fs ex:b8}{H H1:Hp}{h1:Heap}{x e:Addr}{o:HO}
def Un.any (u:Un fs ex H H1 h h1){ob:Obj}(q:h.get? b=some ob)(n:H b=none)(x:b∉ex):∃sl,h1.get? b=some { ob with slots:=sl }:=by
 by_cases a:b∈fs
 ·exact u.slot b ob q n a x
 ·exact⟨ob.slots,u.keep b ob q n a x⟩
def Un.kept (k:∀b u,h.get? b=some u->h'.get? b=some u):Un fs ex H H h h':=
 ⟨λb ob q _ _ _=>k b ob q,λb ob q _ _ _=>⟨ob.slots,k b ob q⟩,λ_ _ _ n _=>n,λb ob q _=>⟨ob,k b ob q⟩,λ_ _ q=>q,λ_ _ _ q=>q,λ_ p q=>⟨#[],by rw[q];simp⟩⟩
def Un.refl:Un fs ex H H h h:=Un.kept λ_ _ q=>q
def Un.laid (k:∀b u,h.get? b=some u->h'.get? b=some u)(p:h.objs.size<=a)(c:H a=none):Un fs ex H (upd H a o) h h' where
 keep:=λb u q _ _ _=>k b u q
 slot:=λb u q _ _ _=>⟨u.slots,k b u q⟩
 free:=λb u q n _=>by rw[qh (aM (aE (aG q) p))];exact n
 there:=λb u q _=>⟨u,k b u q⟩
 tups:=λb x q=>by rw[qh (kI q c)];exact q
 frzs:=λb u x q=>by rw[qh (kI q c)];exact q
 tbls:=λb P q=>⟨#[],by rw[qh (kI q c),q];simp⟩
def Un.write (M:WG (H x))(i:e=x∨H e=some (.own x))(k:∀b u,b≠e->h.get? b=some u->h'.get? b=some u)(c:∃u,h'.get? e=some u):Un fs ex H (upd H x o) h h':=by
 have d:∀b,H b=none->b≠x:=λb n z=>by subst z;rw[n]at M;exact M
 have f:∀b,H b=none->b≠e:=λb n z=>by
  subst z;rcases i with r|r
  ·exact d b n r
  ·rw[n]at r;cases r
 have g:∀b u,H b=some u->¬WG (some u)->b≠x:=λb u q nm z=>by subst z;rw[q]at M;exact nm M
 refine⟨λb u q n _ _=>k b u (f b n) q,λb u q n _ _=>⟨u.slots,k b u (f b n) q⟩,λb u q n _=>by rw[qh (d b n)];exact n,λb u q _=>?_,
  λb X q=>by rw[qh (g b _ q λz=>z)];exact q,λb u X q=>by rw[qh (g b _ q λz=>z)];exact q,λb p q=>⟨#[],by rw[qh (g b _ q λz=>z),q];simp⟩⟩
 by_cases a:b=e
 ·subst a;exact c
 ·exact⟨u,k b u a q⟩
end
noncomputable def Sn (h:Heap)(H:Hp):b8:=(List.range h.objs.size).filter λa=>(H a).isSome
def JU (h:Heap)(H:Hp):Heap:=hideAll h (Sn h H)
def DX (h:Heap)(H:Hp):(JU h H).objs.size=h.objs.size:=hideAll_size _ _
def Bl {H:Hp}{o:Obj}(e:h.get? b=some o)(n:H b=none):(JU h H).get? b=some o:=
 bS _ e λa=>by have q:=(List.mem_filter.mp a).2;rw[n]at q;simp at q
def cN {H:Hp}{o:Obj}(e:(JU h H).get? b=some o):h.get? b=some o/\H b=none:=by
 have E:=of_hideAll (Sn h H) e;refine⟨E,?_⟩;cases q:H b with
 |none=>rfl|some x=>
  have z:(JU h H).get? b=none:=hideAll_none (Sn h H) (List.mem_filter.mpr ⟨cE.mpr (aG E),by simp[q]⟩)
  rw[z]at e;cases e
structure Mod (K:Frag)(mg:cn)(base:Heap):Prop where
 kin:K.In base
 glob:base.Ns mainGlobals mg
 blt:∃mb,base.Ns builtinsNs mb/\∀x:Str,x ≠ "__name__" -> mb x=bootBuiltins x
 nolimit:base.NoLimit
structure Cx where
 prog:Program
 w:World
 K:Frag
 mg:Str->Option Value
 base:Heap
 A:Around
 N:cf
 s0:Shared
 H0:Hp
 env:Env
 outer:cq
 stack:cq
 ex:b8
 fn:Str->Bool
 calm:Bool
 pn:b9
 xe:Value->Shared->Prop
noncomputable abbrev qS (X:Cx):PySem.Sem α->(α->PySem.Shared->Prop)->(PySem.Value->PySem.Shared->Prop)->PySem.Shared->Prop:=PySem.wpAny (PySem.model X.prog X.w) X.A
noncomputable def qG (l:cq):b8:=l.filterMap (·.frame)
abbrev Cx.fs (X:Cx):b8:=qG X.outer
def Sd (s:Scope)(x:Str):Prop:=s.names.lookup x=some .local∨s.names.lookup x=some .cell∨s.names.lookup x=some .free
def Loc (s:Scope)(x:Str):Prop:=s.names.lookup x=some .local∨s.names.lookup x=some .cell
def Look (e:Env)(h:Heap)(m:cn)(x:Str)(u:Value):Prop:=
 (e.kindOf x=some .local/\m x=some u)∨((e.kindOf x=some .cell∨e.kindOf x=some .free)/\∃c,e.cells.lookup x=some c/\h.IsCell c (some u))
structure Cx.Ok (X:Cx):Prop where
 mod:Mod X.K X.mg X.base
 kind:X.env.scope.kind=.function
 glob:X.env.globals=mainGlobals
 blt:X.env.builtins=builtinsNs
 above:X.s0.heap.objs.size<=X.env.locals
 inj:∀x y c,X.env.cells.lookup x=some c->X.env.cells.lookup y=some c->x=y
 has:∀x,(X.env.kindOf x=some .cell∨X.env.kindOf x=some .free)->∃c,X.env.cells.lookup x=some c
 cab:∀x c,X.fn x=true->X.env.cells.lookup x=some c->X.s0.heap.objs.size<=c
 hd:X.calm=true->X.A.handled=none
 frames:X.A.frames=some X.stack
 stk:X.stack=X.outer∨(X.stack=X.env::X.outer/\X.env.frame=some X.env.locals)
 exf:∀b∈X.ex,b≠X.env.locals/\∀x c,X.env.cells.lookup x=some c->c≠b
 bs:∀b o,X.base.get? b=some o->X.s0.heap.get? b=some o/\X.H0 b=none
 bsz:X.base.objs.size<=X.s0.heap.objs.size
 noex:∀b o,X.base.get? b=some o->b∉X.ex
 exfs:∀b∈X.ex,b∉X.fs
 funs:X.s0.heap.FunFrames X.base X.outer
 frf:∀b∈X.fs,X.H0 b=none
structure Inv (X:Cx)(n9:b9)(σ:List (Option V))(H:Hp)(s:Shared):Prop where
 ok:X.Ok
 os:s.os=X.s0.os
 bare:AllBare s.gens
 base:Un X.fs X.ex X.H0 H X.s0.heap s.heap
 loc:∃m,s.heap.Ns X.env.locals m/\∀(i:Nat)(x:Str)(v:V),X.N[i]? =some x->σ[i]? =some (some v)->Sd X.env.scope x->∃u,RelV v u/\Look X.env s.heap m x u
 cell:∀x c,X.env.cells.lookup x=some c->∃v,s.heap.IsCell c v
 free:H X.env.locals=none
 freeC:∀x c,X.env.cells.lookup x=some c->H c=none
 pin:∀p∈X.pn++n9,s.heap.get? p.1=some p.2/\H p.1=none/\p.1≠X.env.locals/\p.1∉X.fs/\∀v,p.2.data≠.cell v
 hok:qY X.prog X.w H s.heap
 len:σ.length=X.N.length
section
variable {X:Cx}{σ:List (Option V)}{H H':Hp}
def Cx.Ok.nofr (ok:X.Ok){o:Obj}(e:X.base.get? b=some o):b∉X.fs:=λh=>by
 have:=(ok.funs.mem h).1
 rw[e]at this;cases this
theorem Inv.bs (I:Inv X n9 σ H s):∀b o,X.base.get? b=some o->s.heap.get? b=some o/\H b=none:=λb o e=>
 ⟨I.base.keep b o (I.ok.bs b o e).1 (I.ok.bs b o e).2 (I.ok.nofr e) (I.ok.noex b o e),I.base.free b o (I.ok.bs b o e).1 (I.ok.bs b o e).2 (I.ok.noex b o e)⟩
def Inv.bk (I:Inv X n9 σ H s):∀b o,X.base.get? b=some o->s.heap.get? b=some o:=λb o e=>(I.bs b o e).1
theorem Inv.mod (I:Inv X n9 σ H s):Mod X.K X.mg X.base:=I.ok.mod
def Inv.kIn (I:Inv X n9 σ H s):X.K.In s.heap:=I.ok.mod.kin.keeps I.bk
theorem Inv.lt (I:Inv X n9 σ H s):X.env.locals<s.heap.objs.size:=let ⟨_,h,_⟩:=I.loc;h.lt
def Inv.sz (I:Inv X n9 σ H s):X.s0.heap.objs.size<=s.heap.objs.size:=bo I.ok.above (bJ I.lt)
def Inv.nofs (I:Inv X n9 σ H s)(h:s.heap.objs.size<=a):a∉X.fs:=λc=>by obtain⟨_,o,b,_⟩:=I.ok.funs.mem c;exact absurd (aE (aG b) (bo I.sz h)) (aZ _)
def Inv.cne (I:Inv X n9 σ H s):∀x c,X.env.cells.lookup x=some c->c≠X.env.locals:=λx c e z=>by obtain⟨v,o,b,d⟩:=I.cell x c e;obtain⟨m,⟨f,E,p,h,a,_⟩,_⟩:=I.loc;rw[z,h]at b;cases b;rw[a]at d;cases d
theorem Inv.funs (I:Inv X n9 σ H s):s.heap.FunFrames X.base X.outer:=by
 have all:∀(l:cq),(∀b∈qG l,b∈X.fs)->X.s0.heap.FunFrames X.base l->s.heap.FunFrames X.base l:=by
  intro l
  induction l with
  |nil=>intro _ _;trivial|cons E r i=>
   intro c g;obtain⟨j,⟨L,o,n,p,f,q⟩,d⟩:=g;have a:=c L (by unfold qG;rw[bM,n];exact au)
   obtain⟨sl,e⟩:=I.base.slot L o f (I.ok.frf L a) a λz=>I.ok.exfs L z a;exact⟨j,⟨L,_,n,p,e,q⟩,i (λb h=>c b (by unfold qG;rw[bM,n];exact ao _ h)) d⟩
 exact all X.outer (λ_ h=>h) I.ok.funs
theorem Inv.stack (I:Inv X n9 σ H s):s.heap.FunFrames X.base X.stack:=by
 rcases I.ok.stk with e|⟨e,hf⟩
 ·rw[e];exact I.funs
 ·rw[e]
  obtain⟨m,h,_⟩:=I.loc;refine .cons (by rw[I.ok.kind];decide) hf h ?_ I.funs
  exact Heap.get?_none_of_le (bo I.ok.bsz I.ok.above)
def Inv.stkSub (I:Inv X n9 σ H s):∀b∈qG X.stack,b∈X.env.locals::X.fs:=λb h=>by
 rcases I.ok.stk with e|⟨e,hf⟩
 ·rw[e]at h;exact ao _ h
 ·rw[e]at h
  unfold qG at h;rw[bM,hf]at h;exact h
def Inv.stkFree (I:Inv X n9 σ H s):∀b∈qG X.stack,H b=none:=λb h=>by
 rcases cB.mp (I.stkSub b h) with e|h
 ·rw[e];exact I.free
 ·obtain⟨_,o,a,_⟩:=I.ok.funs.mem h
  exact I.base.free b o a (I.ok.frf b h) λz=>I.ok.exfs b z h
def Inv.step {B:Array GenState}{d':Drawn}{ch:b8}(I:Inv X n9 σ H s)
  (a:∀b∈ch,(b∈X.ex∨X.s0.heap.objs.size<=b)/\b≠X.env.locals/\(∀x c,X.env.cells.lookup x=some c->c≠b)/\∀p∈X.pn++n9,p.1≠b)
  (keep:∀b o,b≠X.env.locals->b∉X.fs->b∉ch->s.heap.get? b=some o->H b=none->h'.get? b=some o)
  (Q:∀b o,b≠X.env.locals->b∈X.fs->b∉ch->s.heap.get? b=some o->H b=none->∃sl,h'.get? b=some { o with slots:=sl })(L:∀b o,b∉ch->s.heap.get? b=some o->H b=none->H' b=none)
  (there:∀b o,b∉ch->s.heap.get? b=some o->∃o',h'.get? b=some o')
  (T:∀b xs,H b=some (.tup xs)->H' b=some (.tup xs))(Z:∀b o u,H b=some (.frz o u)->H' b=some (.frz o u))(U:∀b ps,H b=some (.tbl ps)->∃Y,H' b=some (.tbl (ps++Y)))
  (ns:∀m,s.heap.Ns X.env.locals m->h'.Ns X.env.locals m)(hok:qY X.prog X.w H' h')(J:AllBare B):
  Inv X n9 σ H' { s with heap:=h',gens:=B,drawn:=d',toks:=t' }:=by
 have WH:∀b o,X.s0.heap.get? b=some o->b≠X.env.locals:=λb o e=>aM (aE (aG e) I.ok.above);have C:∀b o,X.s0.heap.get? b=some o->b∉X.ex->b∉ch:=λb o e h f=>by
  rcases(a b f).1 with z|z
  ·exact h z
  ·exact absurd (aE (aG e) z) (aZ _)
 have P:∀x c,X.env.cells.lookup x=some c->∀v,s.heap.IsCell c v->h'.IsCell c v:=λx c e v ⟨o,g,hd⟩=>by
  have N:=λz=>(a c z).2.2.1 x c e rfl
  by_cases A:c∈X.fs
  ·obtain⟨sl,q⟩:=Q c o (I.cne x c e) A N g (I.freeC x c e)
   exact⟨_,q,hd⟩
  ·exact⟨o,keep c o (I.cne x c e) A N g (I.freeC x c e),hd⟩
 refine⟨I.ok,I.os,J,⟨λb o e n f h=>?_,λb o e n f h=>?_,λb o e n h=>?_,λb o e h=>?_,λb xs e=>T b xs (I.base.tups b xs e),λb o xs e=>Z b o xs (I.base.frzs b o xs e),λb ps e=>?_⟩,?_,λx c e=>?_,?_,λx c e=>?_,λp y=>?_,hok,I.len⟩
 ·exact keep b o (WH b o e) f (C b o e h) (I.base.keep b o e n f h) (I.base.free b o e n h)
 ·obtain⟨sl,E⟩:=I.base.slot b o e n f h
  obtain⟨S,j⟩:=Q b _ (WH b o e) f (C b o e h) E (I.base.free b o e n h);exact⟨S,j⟩
 ·obtain⟨o',E⟩:=I.base.there b o e h
  exact L b o' (C b o e h) E (I.base.free b o e n h)
 ·obtain⟨o',E⟩:=I.base.there b o e h
  exact there b o' (C b o e h) E
 ·obtain⟨m1,E⟩:=I.base.tbls b ps e
  obtain⟨M,j⟩:=U b _ E;exact⟨m1++M,by rw[j,Array.append_assoc]⟩
 ·obtain⟨m,hn,D⟩:=I.loc
  refine⟨m,ns m hn,λi x v E j K=>?_⟩;obtain⟨u,r,l⟩:=D i x v E j K;refine⟨u,r,?_⟩;rcases l with l|⟨k,c,e,z⟩
  ·exact .inl l
  ·exact .inr ⟨k,c,e,P x c e _ z⟩
 ·obtain⟨v,z⟩:=I.cell x c e
  exact⟨v,P x c e v z⟩
 ·obtain⟨m,⟨o,_,_,g,_⟩,_⟩:=I.loc
  exact L _ o (λz=>(a _ z).2.1 rfl) g I.free
 ·obtain⟨v,o,g,hd⟩:=I.cell x c e
  exact L c o (λz=>(a c z).2.2.1 x c e rfl) g (I.freeC x c e)
 ·obtain⟨e,n,ne,t,d⟩:=I.pin p y
  have N:=λz=>(a p.1 z).2.2.2 p y rfl;exact⟨keep p.1 p.2 ne t N e n,L p.1 p.2 N e n,ne,t,d⟩
def Inv.un (I:Inv X n9 σ H s)(u:Un X.fs [] H H' s.heap h')(g:qY X.prog X.w H' h'):Inv X n9 σ H' { s with heap:=h',toks:=t' }:=by
 obtain⟨m,⟨o,f,p,c,r⟩,_⟩:=id I.loc;obtain⟨sl,L⟩:=u.any c I.free (by simp)
 exact I.step (ch:=[]) (λ_ z=>nomatch z) (λb o _ a _ e n=>u.keep b o e n a (by simp)) (λb o _ a _ e n=>u.slot b o e n a (by simp)) (λb o _ e n=>u.free b o e n (by simp)) (λb o _ e=>u.there b o e (by simp)) u.tups u.frzs u.tbls (λM j=>by obtain⟨l,i,E,h,d⟩:=j;rw[c]at h;cases h;exact⟨_,i,E,L,d⟩) g I.bare
def Inv.call {g:Array GenState}{D:Drawn}{C:b8}(I:Inv X n9 σ H s)(u:Un (qG X.stack) C H H' s.heap h')(v:qY X.prog X.w H' h')(j:AllBare g)
  (d:∀b∈C,(b∈X.ex∨X.s0.heap.objs.size<=b)/\b≠X.env.locals/\(∀x c,X.env.cells.lookup x=some c->c≠b)/\∀p∈X.pn++n9,p.1≠b):
  Inv X n9 σ H' { s with heap:=h',gens:=g,drawn:=D,toks:=t' }:=by
 obtain⟨m,⟨o,q,t,f,r⟩,_⟩:=id I.loc;obtain⟨sl,L⟩:=u.any f I.free λz=>(d _ z).2.1 rfl;exact I.step d (λb o L l h e n=>u.keep b o e n (λz=>(cB.mp (I.stkSub b z)).elim L l) h) (λb o _ _ h e n=>u.any e n h) (λb o h e n=>u.free b o e n h) (λb o h e=>u.there b o e h) u.tups u.frzs u.tbls (λM A=>by obtain⟨B,y,E,a,i⟩:=A;rw[f]at a;cases a;exact⟨_,y,E,L,i⟩) v j
def Inv.turned {i:Addr}(I:Inv X n9 σ H s)(k:∀b o,b≠i->s.heap.get? b=some o->h'.get? b=some o)(j:H i=none)(L:i≠X.env.locals)
  (w:i∈X.ex∨X.s0.heap.objs.size<=i)(t:∀x c,X.env.cells.lookup x=some c->c≠i)(f:∀p∈X.pn++n9,p.1≠i):Inv X n9 σ H { s with heap:=h',toks:=t' }:=by
 have N:∀b u,H b=some u->b≠i:=λb u e z=>by rw[z,j]at e;cases e
 refine I.step (ch:=[i]) (λb d=>?_) (λb o _ _ h e _=>k b o (λz=>h (by simp[z])) e) (λb o _ _ h e _=>⟨o.slots,k b o (λz=>h (by simp[z])) e⟩) (λ_ _ _ _ n=>n)
  (λb o h e=>⟨o,k b o (λz=>h (by simp[z])) e⟩) (λ_ _ e=>e) (λ_ _ _ e=>e) (λb P e=>⟨#[],by rw[e];simp⟩) (λm l=>?_) (λb u e=>?_) I.bare
 ·have e:=by simpa using d
  subst e;exact⟨w,L,t,f⟩
 ·obtain⟨o,E,g,a,r⟩:=l
  exact⟨o,E,g,k _ o (Ne.symm L) a,r⟩
 ·refine(I.hok b u e).stay (λc v h q=>k c v ?_ q) (λ_ q=>q) λ_ _ q=>q
  rcases h with z|z
  ·rw[z];exact N b u e
  ·exact N c _ z
def Inv.tok (I:Inv X n9 σ H s)(t:Nat):Inv X n9 σ H { s with toks:=t }:=I.un Un.refl I.hok
theorem Inv.kept (I:Inv X n9 σ H s)(k:∀b u,s.heap.get? b=some u->h'.get? b=some u):Inv X n9 σ H { s with heap:=h',toks:=t' }:=I.un (Un.kept k) (I.hok.kept k)
theorem Inv.laid {o:HO}(I:Inv X n9 σ H s)(k:∀b u,s.heap.get? b=some u->h'.get? b=some u)(h:s.heap.objs.size<=a)(new:jk X.prog X.w (upd H a o) h' a o):
  Inv X n9 σ (upd H a o) { s with heap:=h',toks:=t' }:=I.un (Un.laid k h (I.hok.fresh h)) (I.hok.laid k h new)
theorem Inv.write {x e:Addr}{o:HO}(I:Inv X n9 σ H s)(M:WG (H x))(a:e=x∨H e=some (.own x))(k:∀b u,b≠e->s.heap.get? b=some u->h'.get? b=some u)(h:∃u,h'.get? e=some u)
  (new:jk X.prog X.w (upd H x o) h' x o):Inv X n9 σ (upd H x o) { s with heap:=h',toks:=t' }:=I.un (Un.write M a k h) (I.hok.write M a k h new)
def Inv.pins_of {P:b9}(I:Inv X n9 σ H s)(h:∀p∈P,s.heap.get? p.1=some p.2/\H p.1=none/\p.1≠X.env.locals/\p.1∉X.fs/\∀v,p.2.data≠.cell v):Inv X P σ H s:=
 ⟨I.ok,I.os,I.bare,I.base,I.loc,I.cell,I.free,I.freeC,λp a=>(cH.mp a).elim (λz=>I.pin p (List.mem_append_left _ z)) (h p),I.hok,I.len⟩
def VJ (h:N.Nodup)(a:N[i]? =some x)(b:N[j]? =some x):i=j:=by obtain⟨c,E⟩:=cD.mp a;obtain⟨H,e⟩:=cD.mp b;exact(getElem_inj h).mp (E.trans e.symm)
def PU {A:Around}{v:V}{Q:Unit->Shared->Prop}(I:Inv X n9 σ H s)(hN:X.N.Nodup)(hi:X.N[i]? =some x)(t:Loc X.env.scope x)(r:RelV v u)
  (h:∀s',Inv X n9 (σ.set i (some v)) H s'->(∃a,Heap.SameBut a s.heap s'.heap/\(a=X.env.locals∨X.env.cells.lookup x=some a))->Q () s')(hf:X.fn x=true∨X.env.scope.names.lookup x=some .local:=by first|exact .inl rfl|exact .inr rfl|assumption):wpAny M A (storeName X.env x u) Q E s:=by
 obtain⟨m,hn,hl⟩:=id I.loc;have J:i < σ.length:=by rw[I.len];exact(cD.mp hi).1
 have cne:=I.cne;have tracked:∀{a:Addr}{h':Heap},(∃o,s.heap.get? a=some o/\H a=none)->Heap.SameBut a s.heap h'->qY X.prog X.w H h':=λ {a h'} ha f b ob e=>by
  obtain⟨_,_,B⟩:=ha;refine(I.hok b ob e).stay (λc Z l q=>(f.2 c ?_).trans q) (λ_ q=>q) λ_ _ q=>q
  rintro rfl
  rcases l with rfl|l
  ·rw[B]at e;cases e
  ·rw[B]at l;cases l
 rcases t with D|D
 ·refine wpAny_storeName_local D hn (λh' hn' f=>?_) (by rw[I.ok.kind];rfl)
  obtain⟨oL,_,_,hoL,_⟩:=id hn;refine h _ ⟨I.ok,I.os,I.bare,⟨λb o e n P t=>?_,λb o e n P t=>?_,I.base.free,λb o e t=>?_,I.base.tups,I.base.frzs,I.base.tbls⟩,⟨_,hn',λj y v' g C e3=>?_⟩,λy c e=>?_,I.free,I.freeC,λp hp=>?_,tracked ⟨oL,hoL,I.free⟩ f,by simpa using I.len⟩ ⟨_,f,.inl rfl⟩
  ·exact(f.2 b (aM (aE (aG e) I.ok.above))).trans (I.base.keep b o e n P t)
  ·obtain⟨sl,g⟩:=I.base.slot b o e n P t
   exact⟨sl,(f.2 b (aM (aE (aG e) I.ok.above))).trans g⟩
  ·obtain⟨o',g⟩:=I.base.there b o e t
   exact⟨o',(f.2 b (aM (aE (aG e) I.ok.above))).trans g⟩
  ·by_cases K:j=i
   ·subst K
    rw[hi]at g;cases g;rw[aK J]at C;cases C;exact⟨u,r,.inl ⟨D,by simp⟩⟩
   ·rw[aH (Ne.symm K)]at C
    obtain⟨u',r',q⟩:=hl j y v' g C e3;refine⟨u',r',?_⟩;rcases q with ⟨k,e⟩|⟨k,c,e,z⟩
    ·refine .inl ⟨k,?_⟩
     have:y≠x:=λe=>K (VJ hN g (e ▸ hi))
     simp[this,e]
    ·exact .inr ⟨k,c,e,z.sameBut f (cne y c e)⟩
  ·obtain⟨Z,z⟩:=I.cell y c e
   exact⟨Z,z.sameBut f (cne y c e)⟩
  ·obtain⟨e,n,ne,nf,d⟩:=I.pin p hp
   exact⟨(f.2 p.1 ne).trans e,n,ne,nf,d⟩
 ·have L:X.fn x=true:=by
   rcases hf with z|z
   ·exact z
   ·rw[z]at D;cases D
  obtain⟨c,l⟩:=I.ok.has x (.inl D);obtain⟨Z,z⟩:=I.cell x c l;refine wpAny_storeName_cell I.ok.kind D l z (λh' Y f=>?_);obtain⟨oc,T,S⟩:=id z;refine h { s with heap:=h' } ⟨I.ok,I.os,I.bare,⟨λb o e n P t=>?_,λb o e n P t=>?_,I.base.free,λb o e t=>?_,I.base.tups,I.base.frzs,I.base.tbls⟩,⟨m,hn.sameBut f (Ne.symm (cne x c l)),λj y v' g C e3=>?_⟩,λy c' e=>?_,I.free,I.freeC,λp hp=>?_,tracked ⟨oc,T,I.freeC x c l⟩ f,by simpa using I.len⟩ ⟨c,f,.inr l⟩
  ·exact(f.2 b (aM (aE (aG e) (I.ok.cab x c L l)))).trans (I.base.keep b o e n P t)
  ·obtain⟨sl,g⟩:=I.base.slot b o e n P t
   exact⟨sl,(f.2 b (aM (aE (aG e) (I.ok.cab x c L l)))).trans g⟩
  ·obtain⟨o',g⟩:=I.base.there b o e t
   exact⟨o',(f.2 b (aM (aE (aG e) (I.ok.cab x c L l)))).trans g⟩
  ·by_cases K:j=i
   ·subst K
    rw[hi]at g;cases g;rw[aK J]at C;cases C;exact⟨u,r,.inr ⟨.inl D,c,l,Y⟩⟩
   ·rw[aH (Ne.symm K)]at C
    obtain⟨u',r',q⟩:=hl j y v' g C e3;refine⟨u',r',?_⟩;rcases q with q|⟨k,c',e,z'⟩
    ·exact .inl q
    ·refine .inr ⟨k,c',e,z'.sameBut f ?_⟩
     rintro rfl
     exact K (VJ hN g (I.ok.inj _ _ _ e l ▸ hi))
  ·by_cases U:c'=c
   ·subst U;exact⟨_,Y⟩
   ·obtain⟨w2,z2⟩:=I.cell y c' e
    exact⟨w2,z2.sameBut f U⟩
  ·obtain⟨e,n,ne,nf,d⟩:=I.pin p hp
   refine⟨(f.2 p.1 ?_).trans e,n,ne,nf,d⟩;intro q;rw[q,T]at e;exact d Z (by rw[<- (aB e)];exact S)
def YD {A:Around}{v:V}{Q:Unit->Shared->Prop}(I:Inv X n9 σ H s)(b:X.N.Nodup)(d:X.N[i]? =some x)(a:Loc X.env.scope x)(r:RelV v u)
  (h:∀S,Inv X n9 (σ.set i (some v)) H S->Q () S)(f:X.fn x=true∨X.env.scope.names.lookup x=some .local:=by first|exact .inl rfl|exact .inr rfl|assumption):wpAny M A (storeName X.env x u) Q E s:=
 PU I b d a r (λS c _=>h S c) f
def Inv.call' {ch:b8}(I:Inv X n9 σ H s)(o:s'.os=s.os)(u:Un (qG X.stack) ch H H' s.heap s'.heap)(e:qY X.prog X.w H' s'.heap)(g:AllBare s'.gens)
  (h:∀b∈ch,(b∈X.ex∨X.s0.heap.objs.size<=b)/\b≠X.env.locals/\(∀x c,X.env.cells.lookup x=some c->c≠b)/\∀p∈X.pn++n9,p.1≠b):Inv X n9 σ H' s':=by
 obtain⟨a,d,D,t,f⟩:=s';subst o;exact I.call u e g h
end
abbrev XK:=Value->Option Addr->Hp->Prop
noncomputable abbrev St:=List (Option V)
abbrev VK:=V->Hp->Prop
abbrev TE:=St->Hp->VK->Prop
abbrev TT:=St->Hp->(Bool->Hp->Prop)->Prop
abbrev TA:=St->Hp->(List V->Hp->Prop)->Prop
structure Ends where
 nx:St->Hp->Prop
 rt:VK
 bk:St->Hp->Prop:=λ_ _=>False
 ct:St->Hp->Prop:=λ_ _=>False
abbrev TS:=Ends->St->Hp->Prop
inductive EP (X:Cx)(n9:b9)(σ:St)(Q:VK)(u:Value)(s':Shared):Prop
 |mk (v:V) (H':Hp) (I:Inv X n9 σ H' s') (r:RelV v u) (q:Q v H')
def TP (X:Cx)(p:b9)(a:St)(Q:Bool->Hp->Prop)(b:Bool)(s:Shared):Prop:=∃H,Inv X p a H s/\Q b H
inductive AP (X:Cx)(n9:b9)(σ:St)(Q:List V->Hp->Prop)(us:b0)(s':Shared):Prop
 |mk (vs:List V) (H':Hp) (I:Inv X n9 σ H' s') (r:Vals vs us) (q:Q vs H')
def SP (X:Cx)(p:b9)(D:Ends)(f:Flow)(s:Shared):Prop:=
 match f with|.next=>∃a H,Inv X p a H s/\D.nx a H|.brk=>∃a H,Inv X p a H s/\D.bk a H|.cont=>∃a H,Inv X p a H s/\D.ct a H|.ret u=>∃v a H,Inv X p a H s/\RelV v u/\D.rt v H
def PE (X:Cx)(e:Expr)(t:TE):Prop:=
 ∀(n9:b9)(s:Shared)(σ:St)(H:Hp)(Q:VK),Inv X n9 σ H s->t σ H Q->qS X (eval e X.env) (EP X n9 σ Q) X.xe s
def PT (X:Cx)(e:Expr)(t:TT):Prop:=
 ∀(n9:b9)(s:Shared)(σ:St)(H:Hp)(Q:Bool->Hp->Prop),Inv X n9 σ H s->t σ H Q->qS X (isTrue e X.env (eval e X.env)) (TP X n9 σ Q) X.xe s
def PW (X:Cx)(e:Expr)(t:TT):Prop:=
 ∀(whole:Sem Value)(n9:b9)(s:Shared)(σ:St)(H:Hp)(Q:Bool->Hp->Prop),Inv X n9 σ H s->t σ H Q->qS X (isTrue e X.env whole) (TP X n9 σ Q) X.xe s
def PW.pt {X:Cx}{t:TT}(h:PW X e t):PT X e t:=h _
def PA (X:Cx)(e:ck)(t:TA):Prop:=
 ∀(og:Pos)(n9:b9)(s:Shared)(σ:St)(H:Hp)(Q:List V->Hp->Prop),Inv X n9 σ H s->t σ H Q->qS X (spliced (backTo og (starEach e X.env))) (AP X n9 σ Q) X.xe s
def PS (X:Cx)(S:Stmt)(t:TS):Prop:=
 ∀(n9:b9)(s:Shared)(σ:St)(H:Hp)(D:Ends),Inv X n9 σ H s->t D σ H->qS X (exec S X.env) (SP X n9 D) X.xe s
def yL (X:Cx)(S:cy)(t:TS):Prop:=
 ∀(n9:b9)(s:Shared)(σ:St)(H:Hp)(D:Ends),Inv X n9 σ H s->t D σ H->qS X (execs S X.env) (SP X n9 D) X.xe s
def zT {t:Sem α}{Q q:α->Shared->Prop}{A:Around}(h:wpAny M A t Q E s)(H:∀a s,Q a s->q a s):wpAny M A t q E s:=wpAny_mono h H λ_ _ x=>x
section
variable {X:Cx}
def cO (i:Nat):TE:=λa H Q=>∃v,a[i]? =some (some v)/\Q v H
def tC (v:V):TE:=λ_ H Q=>Q v H
def cP (n:X.N[i]? =some x)(g:Sd X.env.scope x)(q:(x==("__debug__":Str))=false:=by decide)(d:(x==("__classdict__":Str))=false:=by decide):PE X (.Name x og) (cO i):=by
 intro p s t H Q I h;obtain⟨v,e,h⟩:=h;obtain⟨m,w,j⟩:=I.loc;obtain⟨u,r,l⟩:=j i x v n e g;have o:EP X p t Q u s:=⟨v,H,I,r,h⟩;rcases l with ⟨b,y⟩|⟨b,c,f,a⟩
 ·exact wpAny_Name (wpAny_loadName_local I.ok.kind b w y o) q
 ·rcases b with b|b
  ·exact wpAny_Name (wpAny_loadName_cell I.ok.kind b f a o) q
  ·exact wpAny_Name (wpAny_loadName_free I.ok.kind b f a o d) q
def cQ {i j og}:PE X (.Constant (.int i) j og) (tC (.int i)):=λ_ _ _ H _ I h=>wpAny_Constant_int ⟨.int i,H,I.tok _,⟨_,rfl⟩,h⟩
def cR {b j og}:PE X (.Constant (.bool b) j og) (tC (.bl b)):=λ_ _ _ H _ I h=>Constant_bool ⟨.bl b,H,I,rfl,h⟩
def cS {j og}:PE X (.Constant .none j og) (tC .non):=λ_ _ _ H _ I h=>Constant_none ⟨.non,H,I,rfl,h⟩
def cT {x j og}:PE X (.Constant (.str x) j og) (tC (.str x)):=λ_ _ _ H _ I h=>Calls.Constant_str ⟨.str x,H,I.tok _,⟨_,rfl⟩,h⟩
def Gl (X:Cx)(x:Str):Prop:=X.env.kindOf x=some .globalImplicit
def KL {a:St}{H:Hp}(I:Inv X n9 a H s)(g:Gl X x)(b:X.mg x=some u)(h:Q u s)
  (d:(x==("__debug__":Str))=false:=by decide):qS X (eval (.Name x og) X.env) Q E s:=
 Calls.Name_function_global I.ok.kind g (Calls.loadGlobal_global (by rw[I.ok.glob];exact I.mod.glob.keeps I.bk) b h) d
def ZV {a:St}{H:Hp}(I:Inv X n9 a H s)(g:Gl X x)(b:X.mg x=none)(v:bootBuiltins x=some u)(h:Q u s)
  (n:x ≠ "__name__":=by decide)(d:(x==("__debug__":Str))=false:=by decide):qS X (eval (.Name x og) X.env) Q E s:=by
 obtain⟨M,e,c⟩:=I.mod.blt;exact Calls.Name_function_global I.ok.kind g (Calls.loadGlobal_builtin (by rw[I.ok.glob];exact I.mod.glob.keeps I.bk) b (by rw[I.ok.blt];exact e.keeps I.bk) ((c x n).trans v) h) d
def cU {v:V}(g:Gl X x)(a:X.mg x=some u)(r:RelV v u)(d:(x==("__debug__":Str))=false:=by decide):PE X (.Name x og) (tC v):=
 λ_ _ _ H _ I h=>KL I g a ⟨v,H,I,r,h⟩ d
def GK {v:V}(g:Gl X x)(b:X.mg x=none)(a:bootBuiltins x=some u)(r:RelV v u)(n:x ≠ "__name__":=by decide)(d:(x==("__debug__":Str))=false:=by decide):PE X (.Name x og) (tC v):=
 λ_ _ _ H _ I h=>ZV I g b a ⟨v,H,I,r,h⟩ n d
variable {a b:Expr}{ta tb:TE}
def CI (b:Expr)(h:op≠.In)(H:op≠.NotIn):behindInMarks op b=false:=by
 have E:(op==CmpOp.In)=false:=by cases op<;>first|rfl|exact absurd rfl h
 have e:(op==CmpOp.NotIn)=false:=by cases op<;>first|rfl|exact absurd rfl H
 cases b<;>simp[behindInMarks,E,e]
def tB (t:TE):TT:=λa H Q=>t a H λx h=>∃c,x=.bl c/\Q c h
def cV {t:TE}(h:PE X e t)(f:∀w,isTrue e X.env w=(do let v <- w;standAt e.pos;holding [v] (truthy v)):=by intro _;rfl):PT X e (tB t):=by intro p s b H Q I c;refine isTrue_plain (zT (h p s b H _ I c) λv S ⟨x,g,i,r,a⟩=>?_) (f _);obtain⟨d,rfl,q⟩:=a;cases r;exact wpAny_truthy_bool ⟨g,i,q⟩
variable {tA tB':TT}{o7:ck}
def cW (t u:TT):TT:=λa H Q=>t a H λc h=>if c=true then u a h Q else Q false h
def cX (t u:TT):TT:=λa H Q=>t a H λc h=>if c=true then Q true h else u a h Q
def cY (t:TT):TT:=λa H Q=>t a H λc h=>Q (!c) h
def pw_and1 (b:PT X a tA):PW X (.BoolOp .And [a] og) tA:=by
 intro w p s d H Q I h;refine isTrue_and (zT (b p s d H Q I h) λc S e=>?_);cases c with|true=>exact isTrue_and_nil e|false=>exact e
def pw_or1 (b:PT X a tA):PW X (.BoolOp .Or [a] og) tA:=by
 intro w p s d H Q I h;refine isTrue_or (zT (b p s d H Q I h) λc S e=>?_);cases c with|false=>exact isTrue_or_nil e|true=>exact e
def pw_and (e:PT X a tA)(d:PW X (.BoolOp .And (b::o7) og) tB'):PW X (.BoolOp .And (a::b::o7) og) (cW tA tB'):=by
 intro w p s f H Q I h;refine isTrue_and (zT (e p s f H _ I h) λc S ⟨g,i,q⟩=>?_);cases c with|true=>exact d w p S f g Q i q|false=>exact⟨g,i,q⟩
def pw_or (e:PT X a tA)(d:PW X (.BoolOp .Or (b::o7) og) tB'):PW X (.BoolOp .Or (a::b::o7) og) (cX tA tB'):=by
 intro w p s f H Q I h;refine isTrue_or (zT (e p s f H _ I h) λc S ⟨g,i,q⟩=>?_);cases c with|true=>exact⟨g,i,q⟩|false=>exact d w p S f g Q i q
def cZ (b:PT X a tA):PT X (.UnaryOp .Not a og) (cY tA):=by intro p s d H Q I h;exact isTrue_not (b p s d H (λc e=>Q (!c) e) I h)
def c8 (T t:TE):TE:=λa H Q=>T a H λx h=>∃c,x=.bl c/\if c=true then t a h Q else Q (.bl false) h
def c9 (t:TE):TE:=λa H Q=>t a H λx h=>∃c,x=.bl c/\Q (.bl (!c)) h
def da {op}{t:TE}(h:PE X a t):PE X (.BoolOp op [a] og) t:=λp s b H Q I w=>BoolOp_one (h p s b H Q I w)
def dc (e:PE X a ta)(d:PE X (.BoolOp .And (b::o7) og) tb):PE X (.BoolOp .And (a::b::o7) og) (c8 ta tb):=by
 intro p s f H Q I h;refine BoolOp_and (zT (e p s f H _ I h) λv S ⟨x,g,i,r,q⟩=>?_);obtain⟨c,rfl,q⟩:=q;cases r;refine wpAny_truthy_bool ?_;cases c with|true=>exact d p S f g Q i q|false=>exact⟨.bl false,g,i,rfl,q⟩
def de (b:PE X a ta):PE X (.UnaryOp .Not a og) (c9 ta):=by intro p s d H Q I h;refine UnaryOp_ (zT (b p s d H _ I h) λv S ⟨x,e,i,r,q⟩=>?_);obtain⟨c,rfl,q⟩:=q;cases r;exact not_of (wpAny_truthy_bool ⟨.bl (!c),e,i,rfl,q⟩)
def df (t:TT)(a T:TE):TE:=λb H Q=>t b H λc h=>if c=true then a b h Q else T b h Q
def CL {c:Expr}(e:PT X c tA)(g:PE X a ta)(f:PE X b tb):PE X (.IfExp c a b og) (df tA ta tb):=by
 intro p s j H Q I h;refine wpAny_IfExp (zT (e p s j H _ I h) λd S ⟨l,i,q⟩=>?_);cases d with|true=>exact g p S j l Q i q|false=>exact f p S j l Q i q
end
def jd (K:Frag)(H:Hp)(a:Addr)(x:List V):Prop:=
 Rd H a (.lst x)∨
  ∃(o:Obj) (ot:Array Value) (n:Nat),K.lookup a=some o/\o.cls=.type "list" /\ o.dict=none/\o.data=.seq ot n/\ot.size<=sizeLine/\Vals x ot.toList
def qy (K:Frag)(H:Hp)(a:Addr)(x:List V):Prop:=
 Rd H a (.tup x)∨
  ∃(o:Obj) (ot:Array Value) (n:Nat),K.lookup a=some o/\(o.cls=.type "tuple" /\ o.dict=none)/\o.data=.seq ot n/\ot.size<=sizeLine/\Vals x ot.toList
noncomputable def dh:Value->Option V
 |.none=>some .non|.bool b=>some (.bl b)|.int i _=>some (.int i)|.str x _=>some (.str x)|.ref a=>some (.ref a)|.type n=>some (.ty n)|_=>none
def RelV.abs {x:V}(r:RelV x u):dh u=some x:=by
 cases x with|non=>cases r;rfl|bl _=>cases r;rfl|int _=>obtain⟨t,rfl⟩:=r;rfl|str _=>obtain⟨t,rfl⟩:=r;rfl|ref _=>cases r;rfl|ty _=>cases r;rfl
def RelV.inj {x y:V}(r:RelV x u)(q:RelV y u):x=y:=aB (r.abs.symm.trans q.abs)
theorem Vals.inj:∀{x y:List V}{u:b0},Vals x u->Vals y u->x=y
 |_,_,_,.nil,.nil=>rfl|_,_,_,.cons r t,.cons a t'=>by rw[r.inj a,Vals.inj t t']
section
variable {X:Cx}{σ:St}{H:Hp}{xs ys:List V}
def jd.of {K:Frag}(h:H a=some (.lst xs)):jd K H a xs:=.inl (.inl h)
def qy.of {K:Frag}(h:H a=some (.tup xs)):qy K H a xs:=.inl (.inl h)
def Inv.list (I:Inv X n9 σ H s)(h:jd X.K H a xs):∃i:b0,Vals xs i/\PlainL s.heap a i.toArray/\xs.length<=sizeLine:=by
 rcases h with h|⟨o,i,n,c,d,hd,b,f,r⟩
 ·obtain⟨z,i,n,r,e⟩:=h.ok I.hok
  exact⟨i,r,⟨_,n,e,rfl,rfl,rfl⟩,z⟩
 ·refine⟨i.toList,r,⟨o,n,I.kIn a o c,d,hd,by simpa using b⟩,?_⟩
  have e:=r.length;simp only[aT]at e;lia
def Inv.tuple (I:Inv X n9 σ H s)(h:qy X.K H a xs):∃i:b0,Vals xs i/\IsTup s.heap a i.toArray/\xs.length<=sizeLine:=by
 rcases h with h|⟨o,i,n,c,d,b,f,r⟩
 ·obtain⟨z,i,r,p⟩:=h.ok I.hok
  exact⟨i,r,p.tup,z⟩
 ·refine⟨i.toList,r,⟨o,I.kIn a o c,d.1,n,by simpa using b⟩,?_⟩
  have e:=r.length;simp only[aT]at e;lia
def Inv.list_inj (I:Inv X n9 σ H s)(h:jd X.K H a xs)(f:jd X.K H a ys):xs=ys:=by
 obtain⟨b,r,⟨o,n,e,_,_,d⟩,_⟩:=I.list h;obtain⟨i,c,⟨j,N,E,_,_,g⟩,_⟩:=I.list f;rw[e]at E;cases E;rw[d]at g;injection g with D _
 have:b=i:=by simpa using congrArg Array.toList D
 subst this;exact r.inj c
def Inv.tupleN (I:Inv X n9 σ H s)(h:qy X.K H a xs):∃ob,s.heap.get? a=some ob/\ob.dict=none:=by
 rcases h with h|⟨o,i,n,b,d,g,f,r⟩
 ·obtain⟨z,i,r,o,e,c,_⟩:=h.ok I.hok
  exact⟨o,e,c.2⟩
 ·exact⟨o,I.kIn a o b,d.2⟩
def Inv.tuple_inj (I:Inv X n9 σ H s)(h:qy X.K H a xs)(f:qy X.K H a ys):xs=ys:=by
 obtain⟨b,r,⟨o,e,_,n,d⟩,_⟩:=I.tuple h;obtain⟨i,c,⟨j,E,_,N,g⟩,_⟩:=I.tuple f;rw[e]at E;cases E;rw[d]at g;injection g with D _
 have:b=i:=by simpa using congrArg Array.toList D
 subst this;exact r.inj c
end
noncomputable abbrev Cx.wish (X:Cx)(E:cg):Cx:={ X with xe:=E }
noncomputable abbrev Cx.nox (X:Cx):Cx:=X.wish λ_ _=>False
theorem Cx.Ok.wish {X:Cx}(ok:X.Ok)(E:cg):(X.wish E).Ok:=
 ⟨ok.mod,ok.kind,ok.glob,ok.blt,ok.above,ok.inj,ok.has,ok.cab,ok.hd,ok.frames,ok.stk,ok.exf,ok.bs,ok.bsz,ok.noex,ok.exfs,ok.funs,ok.frf⟩
def Cx.Ok.unwish {X:Cx}(ok:(X.wish E).Ok):X.Ok:=
 ⟨ok.mod,ok.kind,ok.glob,ok.blt,ok.above,ok.inj,ok.has,ok.cab,ok.hd,ok.frames,ok.stk,ok.exf,ok.bs,ok.bsz,ok.noex,ok.exfs,ok.funs,ok.frf⟩
section
variable {X:Cx}{σ:St}{H:Hp}
theorem Inv.wish (I:Inv X n9 σ H s)(E:cg):Inv (X.wish E) n9 σ H s:=⟨I.ok.wish E,I.os,I.bare,I.base,I.loc,I.cell,I.free,I.freeC,I.pin,I.hok,I.len⟩
theorem Inv.unwish (I:Inv (X.wish E) n9 σ H s):Inv X n9 σ H s:=⟨I.ok.unwish,I.os,I.bare,I.base,I.loc,I.cell,I.free,I.freeC,I.pin,I.hok,I.len⟩
theorem SP.unwish {D:Ends}{f:Flow}(h:SP (X.wish E) n9 D f s'):SP X n9 D f s':=by
 cases f with|next=>obtain⟨a,H,I,q⟩:=h;exact⟨a,H,I.unwish,q⟩|brk=>obtain⟨a,H,I,q⟩:=h;exact⟨a,H,I.unwish,q⟩|cont=>obtain⟨a,H,I,q⟩:=h;exact⟨a,H,I.unwish,q⟩|ret u=>obtain⟨v,a,H,I,r,q⟩:=h;exact⟨v,a,H,I.unwish,r,q⟩
theorem PT.nox {t:TT}(h:PT X.nox e t):PT X e t:=λp s b H Q I w=>
 wpAny_mono (h p s b H Q (I.wish _) w) (λ_ _ ⟨a,i,q⟩=>⟨a,i.unwish,q⟩) λ_ _ z=>False.elim z
theorem yL.nox {S:cy}{t:TS}(h:yL X.nox S t):yL X S t:=λp s a H D I w=>
 wpAny_mono (h p s a H D (I.wish _) w) (λ_ _ q=>q.unwish) λ_ _ z=>False.elim z
end
section
variable {X:Cx}{st:Stmt}{o7:cy}{t u:TS}{te:TE}
def di:TS:=λD a H=>D.nx a H
def dj (t u:TS):TS:=λD a H=>t { D with nx:=u D } a H
def dk:yL X [] di:=λ_ _ a H _ I h=>wpAny_execs_nil ⟨a,H,I,h⟩
def AH (e:PS X st t)(d:yL X o7 u):yL X (st::o7) (dj t u):=by
 intro p s c H D I h;refine wpAny_execs_cons (zT (e p s c H { D with nx:=u D } I h) λf S q=>?_)
 cases f with
 |next=>
  obtain⟨a,b,i,q⟩:=q;exact d p S a b D i q
 |ret v=>exact q|brk=>exact q|cont=>exact q
def Inv.quiet {a:St}{H:Hp}(I:Inv X n9 a H s):interactive X.env=false:=by simp[interactive,I.ok.kind]
def dm (t:TE):TS:=λD a H=>t a H λ_ h=>D.nx a h
def dq (c:PE X e te)(a:swapsWith e none og.line X.env=pure false:=by rfl):PS X (.Expr e og) (dm te):=by intro p s b H D I h;exact wpAny_Expr_any (zT (c p s b H _ I h) λv S ⟨x,d,i,r,q⟩=>⟨b,d,i,q⟩) I.quiet a
def dr (t:TE):TS:=λD a H=>t a H D.rt
def du (b:PE X e te):PS X (.Return (some e) og) (dr te):=by intro p s a H D I h;exact wpAny_Return_some (zT (b p s a H _ I h) λv S ⟨x,c,i,r,q⟩=>⟨x,a,c,i,r,q⟩)
def dv (c:TT)(t u:TS):TS:=λD a H=>c a H λb h=>if b=true then t D a h else u D a h
def dw {c:Expr}{a b:cy}{T:TT}(e:PT X c T)(g:yL X a t)(f:yL X b u):PS X (.If c a b og) (dv T t u):=by
 intro p s j H D I h;refine wpAny_If (zT (e p s j H _ I h) λd S ⟨l,i,q⟩=>?_);cases d with|true=>exact g p S j l D i q|false=>exact f p S j l D i q
end
abbrev TG:=V->St->Hp->(St->Hp->Prop)->Prop
abbrev Yb:=List V->St->Hp->(St->Hp->Prop)->Prop
def PG (X:Cx)(T:Expr)(t:TG):Prop:=
 ∀(n9:b9)(s:Shared)(σ:St)(H:Hp)(v:V)(u:Value)(Q:St->Hp->Prop),Inv X n9 σ H s->RelV v u->t v σ H Q->
  qS X (assign T X.env u) (λ_ S=>∃a h,Inv X n9 a h S/\Q a h) X.xe s
def XJ (X:Cx)(T:ck)(t:Yb):Prop:=
 ∀(n9:b9)(s:Shared)(σ:St)(H:Hp)(vs:List V)(us:b0)(Q:St->Hp->Prop),Inv X n9 σ H s->Vals vs us->t vs σ H Q->
  qS X (assignInOrder ((assignEach T X.env).map (·.2)) us) (λ_ S=>∃a h,Inv X n9 a h S/\Q a h) X.xe s
abbrev JY:=V->V->V->Hp->(Hp->Prop)->Prop
def Xs (X:Cx)(t:JY):Prop:=
 ∀(n9:b9)(s:Shared)(σ:St)(H:Hp)(o i v:V)(a I u:Value)(Q:Hp->Prop),Inv X n9 σ H s->RelV o a->RelV i I->RelV v u->t o i v H Q->
  qS X (setItem a I u) (λ_ S=>∃h,Inv X n9 σ h S/\Q h) X.xe s
abbrev X3:=V->V->Hp->VK->Prop
def LK (X:Cx)(o:Operator)(t:X3):Prop:=
 ∀(n9:b9)(s:Shared)(σ:St)(H:Hp)(x y:V)(v u:Value)(Q:VK),Inv X n9 σ H s->RelV x v->RelV y u->t x y H Q->
  qS X (inplaceOp o v u) (EP X n9 σ Q) X.xe s
section
variable {X:Cx}
def Xi (i:Nat):TG:=λv a H Q=>Q (a.set i (some v)) H
def YK (b:X.N.Nodup)(d:X.N[i]? =some x)(a:Loc X.env.scope x)(f:X.fn x=true∨X.env.scope.names.lookup x=some .local:=by first|exact .inl rfl|exact .inr rfl|assumption):PG X (.Name x og) (Xi i):=by intro p s e H v u Q I r h;exact wpAny_assign_Name (YD I b d a r (λS c=>⟨_,H,c,h⟩) f)
def dx:Yb:=λv a H Q=>v=[]/\Q a H
def dy (t:TG)(u:Yb):Yb:=λs b H Q=>∃v r,s=v::r/\t v b H λa h=>u r a h Q
def Uu:XJ X [] dx:=by intro p s a H v u Q I r h;obtain⟨e,h⟩:=h;exact assignInOrder_nil ⟨a,H,I,h⟩
def YB {E:ck}{t:TG}{u:Yb}(l:PG X e t)(j:XJ X E u)
  (c:(assignEach (e::E) X.env).map (·.2)=assign e X.env::(assignEach E X.env).map (·.2):=by rfl):XJ X (e::E) (dy t u):=by
 intro p s g H o U Q I r h;obtain⟨v,f,d,h⟩:=h;subst d;cases r with
 |cons r b=>
  rw[c];refine assignInOrder_cons (zT (l p s g H _ _ _ I r h) λ_ S ⟨a,n,i,q⟩=>?_);exact j p S a n _ _ Q i b q
def Z6 (K:Frag)(n:Nat)(t:Yb):TG:=λv b H Q=>∃a x,v=.ref a/\qy K H a x/\x.length=n/\t x b H Q
def UC {E:ck}{k:Nat}{t:Yb}(g:X.calm=true)(h:XJ X E t)
  (B:(assignEach E X.env).length=n:=by rfl)(c:(assignEach E X.env).findIdx? (·.1)=none:=by rfl):PG X (.Tuple E k og) (Z6 X.K n t):=by
 intro P s y H v u Q I r w;obtain⟨a,A,j,q,l,w⟩:=w;subst j;cases r;obtain⟨i,d,f,z⟩:=I.tuple q;refine assign_Tuple_tuple (I.ok.hd g) f (by simp[B,<- l,d.length]) c λp x=>?_
 exact h P _ y H A _ Q (I.kept λb o e=>x b o (aM (aG e)) e) (by simpa using d) w
def QM (to T:TE)(t:JY):TG:=λv b H Q=>to b H λo c=>T b c λi a=>t o i v a λh=>Q b h
def dz {o i:Expr}{to T:TE}{t:JY}(f:PE X o to)(B:PE X i T)(e:Xs X t)
  (g:∀v,assign (.Subscript o i og) X.env v=(do
   let ov <- holding [v] (eval o X.env)
   let iv <- holding [v,ov] (eval i X.env)
   standAt og
   holding [v,ov,iv] (setItem ov iv v)
   release [v,ov,iv] []):=by intro _;rfl):PG X (.Subscript o i og) (QM to T t):=by
 intro P s z H v u Q I r h;rw[g];refine cz (wpAny_holding (zT (f P s z H _ I h) λov A ⟨x,C,n,b,d⟩=>?_));refine cz (wpAny_holding (zT (B P A z C _ n d) λiv S ⟨y,w,l,a,c⟩=>?_));refine cz (wpAny_standAt (cz (wpAny_holding (zT (e P S z w x y v ov iv u _ l b a r c) λ_ D ⟨p,j,q⟩=>?_))));exact wpAny_release ⟨z,p,j,q⟩
def XA (t:TE)(g:TG):TS:=λD a H=>t a H λx h=>g x a h D.nx
def Mj {t:TE}{g:TG}(d:PE X e t)(b:PG X tg g)(a:swapsWithSole [tg] e og.line X.env=pure false:=by rfl)(w:swappedStores [tg] e X.env=pure none:=by rfl)
  (f:(assignEach [tg] X.env).map (·.2)=[assign tg X.env]:=by rfl):PS X (.Assign [tg] e og) (XA t g):=by
 intro p s c H D I h;refine wpAny_Assign_stores (zT (d p s c H _ I h) λv S ⟨x,j,i,r,Q⟩=>?_) a w;rw[f];exact zT (b p S c j x v _ i r Q) λ_ l q=>q
def dA {t:TE}{p:Pos}(c:X.N.Nodup)(j:X.N[i]? =some x)(a:Loc X.env.scope x)(n:PE X e t)(b:swapsWith e (some (.Name x p)) og.line X.env=pure false:=by rfl)(l:X.fn x=true∨X.env.scope.names.lookup x=some .local:=by first|exact .inl rfl|exact .inr rfl|assumption):
  PS X (.Assign [.Name x p] e og) (XA t (Xi i)):=by
 intro P s g H D I h;refine wpAny_Assign_Name (zT (n P s g H _ I h) λv u ⟨y,o,f,r,q⟩=>?_) b;exact YD f c j a r (λS d=>⟨_,o,d,q⟩) l
def dB (i j:Nat)(t:TA):TS:=λD a H=>t a H λs h=>∃v w,s=[v,w]/\D.nx ((a.set i (some v)).set j (some w)) h
def dC {y:Str}{a b:Expr}{t:TA}{P py pt:Pos}{kt k2 pt2}(J:X.calm=true)(l:X.N.Nodup)(hi:X.N[i]? =some x)(E:X.N[j]? =some y)(d:i≠j)
  (g:X.env.scope.names.lookup x=some .local)(f:X.env.scope.names.lookup y=some .local)(K:PA X [a,b] t)
  (hw:swappedStores [.Tuple [.Name x P,.Name y py] kt pt] (.Tuple [a,b] k2 pt2) X.env=pure (some [x,y]))
  (T:swapsWithSole [.Tuple [.Name x P,.Name y py] kt pt] (.Tuple [a,b] k2 pt2) og.line X.env=pure false:=by rfl):
  PS X (.Assign [.Tuple [.Name x P,.Name y py] kt pt] (.Tuple [a,b] k2 pt2) og) (dB i j t):=by
 intro Z s σ H D I h;refine cz (wpAny_standAt ?_);refine cz (cA ?_);refine cz (Tuple_ (zT (K _ Z s σ H _ I h) λus s1 ⟨vs,H1,S,A,Q⟩=>?_));obtain⟨v,w,L,Q⟩:=Q;subst L;obtain⟨U,u,rfl,z,r⟩:∃U u,us=[U,u]/\RelV v U/\RelV w u:=by
  cases A with
  |cons p q=>
   cases q with
   |cons C B=>
    cases B;exact⟨_,_,rfl,p,C⟩
 refine wpAny_newObj_type ?_ (by show 2<=sizeLine;decide)
 rw[hw];refine cz (cA ?_);refine cz (wpAny_rule (cz (unpackItems_tuple (items:=#[U,u]) (I.ok.hd J) (IsTup.new s1.heap _) λY c=>?_)));refine cz (assignInOrder_cons (wpAny_bindName (YD ((S.kept λb o e=>af _ e).kept λb o e=>c b o (aM (aG e)) e) l E (.inl f) r (λs2 M=>?_) (.inr f))));refine assignInOrder_cons (wpAny_bindName (YD M l hi (.inl g) z (λs3 n=>assignInOrder_nil (cA ?_)) (.inr g)));rw[List.set_comm _ _ (Ne.symm d)]at n;exact⟨_,H1,n,Q⟩
def dD (to g e:TE)(T:V->V->Hp->VK->Prop)(p:X3)(t:JY):TS:=λD f H=>to f H λo j=>g f j λi d=>T o i d λx c=>e f c λy b=>p x y b λz a=>t o i z a λh=>D.nx f h
def Lh (X:Cx)(t:V->V->Hp->VK->Prop):Prop:=
 ∀(n9:b9)(s:Shared)(σ:St)(H:Hp)(o i:V)(v I:Value)(Q:VK),Inv X n9 σ H s->RelV o v->RelV i I->t o i H Q->
  qS X (getItem v I) (EP X n9 σ Q) X.xe s
def AQ {o i:Expr}{to ti d:TE}{T:V->V->Hp->VK->Prop}{p:X3}{t:JY}{op:Operator}(J:PE X o to)(hi:PE X i ti)(K:Lh X T)(he:PE X e d)(E:LK X op p)(C:Xs X t)
  (L:∀a b new,augStore i a b new=(do holding [new,a,b] (setItem a b new);release [new,a,b] [];pure .next):=by intros;rfl):PS X (.AugAssign (.Subscript o i ou) op e og) (dD to ti d T p t):=by
 intro n9 s σ H D I h;refine wpAny_AugAssign_SubscriptAny (zT (J n9 s σ H _ I h) λa s1 ⟨c,H1,Y,f,B⟩=>?_) L;refine zT (hi n9 s1 σ H1 _ Y B) λb s2 ⟨x,H2,U,r,A⟩=>?_;refine zT (K n9 s2 σ H2 c x a b _ U f r A) λold s3 ⟨l,H3,S,u,z⟩=>?_;refine zT (he n9 s3 σ H3 _ S z) λv s4 ⟨j,H4,P,q,y⟩=>?_;refine zT (E n9 s4 σ H4 l j old v _ P u q y) λnew s5 ⟨g,H5,N,n,w⟩=>?_;exact zT (C n9 s5 σ H5 c x g a b new _ N f r n w) λ_ s6 ⟨Z,M,Q⟩=>⟨σ,Z,M,Q⟩
def dE (f:Int->Int->Int):X3:=λx y H Q=>∃i j,x=.int i/\y=.int j/\Q (.int (f i j)) H
def dF:LK X .Add (dE λi j=>i+j):=by intro p s b H x y v u Q I a r h;obtain⟨i,j,E,e,q⟩:=h;subst E;subst e;obtain⟨t,rfl⟩:=a;obtain⟨T,rfl⟩:=r;exact iadd_int ⟨.int _,H,I.tok _,⟨_,rfl⟩,q⟩
def dG (c:TT)(t:TS):TS:=λD d H=>∃W:Nat->St->Hp->Prop,(∃m,W m d H)/\∀m d H,W m d H->
 c d H λb e=>if b=true then ∃N:St->Hp->Prop,(∀a h,N a h->∃M,M<m/\W M a h)/\t { D with nx:=N,ct:=N,bk:=D.nx } d e else D.nx d e
def Ar {c:Expr}{t:TT}{T:TS}(p:PassesOwn (model X.prog X.w) X.A X.env X.xe)(B:PT X c t)(C:yL X body T):PS X (.While c body [] og) (dG t T):=by
 intro P s L H D I h;obtain⟨W,⟨Z,z⟩,turn⟩:=h;refine wpAny_While (codeAny_whileLoop (λn S=>∃e x,Inv X P e x S/\W n e x) ?_ Z ⟨L,H,I,z⟩)
 rintro n Y ⟨d,K,E,y⟩
 refine wpAny_passesOwn p (zT (B P Y d K _ E (turn n d K y)) λb U ⟨u,r,Q⟩=>?_);cases b with
 |true=>
  obtain⟨N,o,Q⟩:=Q;refine wpAny_passesOwn p (zT (C P U d u _ r Q) λf s3 q=>?_);cases f with
  |next=>
   obtain⟨a,g,l,j⟩:=q;obtain⟨M,J,i⟩:=o a g j;exact⟨M,J,a,g,l,i⟩
  |cont=>
   obtain⟨a,g,l,j⟩:=q;obtain⟨M,J,i⟩:=o a g j;exact⟨M,J,a,g,l,i⟩
  |brk=>exact q|ret v=>exact q
 |false=>
  exact wpAny_execs_nil ⟨d,u,r,Q⟩
end
structure It where
 go:Nat->Hp->Prop
 yld:Nat->Hp->V->Hp->Prop
 stop:Nat->Hp->Prop
def wC (X:Cx)(P:b9)(H:Hp)(b:Addr):Prop:=
 H b=none/\b≠X.env.locals/\b∉X.fs/\(b∈X.ex∨X.s0.heap.objs.size<=b)/\(∀x c,X.env.cells.lookup x=some c->c≠b)/\∀p∈X.pn++P,p.1≠b
def Inv.fpOk {X:Cx}{f:St}{H a:Hp}(I:Inv X n9 f H s)(h:s.heap.objs.size<=b)(n:a b=none):wC X n9 a b:=by
 refine⟨n,br (aE I.lt h),I.nofs h,.inr (bo I.sz h),λx c e z=>?_,λp d z=>?_⟩
 ·obtain⟨v,q⟩:=I.cell x c e
  exact absurd (aE q.lt (by rw[z];exact h)) (aZ _)
 ·exact absurd (aE (aG (I.pin p d).1) (by rw[z];exact h)) (aZ _)
structure Turn (P:Program)(w:World)(K:Frag)(tg:Expr)(J:It)(fp:b8)(it:Addr)(tn:Nat->Heap->Prop):Prop where
 mem:it∈fp
 obj:∀i h,tn i h->∀b∈fp,∃o,h.get? b=some o/\∀v,o.data≠.cell v
 keep:∀i h h',tn i h->(∀b∈fp,∀o,h.get? b=some o->h'.get? b=some o)->tn i h'
 item:∀(X:Cx),X.prog=P->X.w=w->X.K=K->X.calm=true->∀(i:Nat)(n9:b9)(s:Shared)(σ:St)(H:Hp)(E:cg),Inv X n9 σ H s->(∀b∈fp,wC X n9 H b)->tn i s.heap->J.go i H->
  wpAny (model P w) X.A (pyNext (.ref it)) (λr s1=>∃u,r=some u/\
   wpAny (model P w) X.A (letOwnedTupleGo tg (.ref it) u) (λ_ s2=>∃x H',Inv X n9 σ H' s2/\RelV x u/\J.yld i H x H'/\tn (i+1) s2.heap/\∀b∈fp,H' b=none) E s1) E s
 done:∀(X:Cx),X.prog=P->X.w=w->X.K=K->X.calm=true->∀(i:Nat)(n9:b9)(s:Shared)(σ:St)(H:Hp)(E:cg),Inv X n9 σ H s->(∀b∈fp,wC X n9 H b)->tn i s.heap->J.stop i H->
  wpAny (model P w) X.A (pyNext (.ref it)) (λr s1=>r=none/\Inv X n9 σ H s1) E s
 self:∀(A:Around)(i:Nat)(s:Shared)(Q:cg)(E:cg),tn i s.heap->Q (.ref it) s->wpAny (model P w) A (pyIter (.ref it)) Q E s
abbrev TI:=St->Hp->(It->Hp->Prop)->Prop
inductive Lw (X:Cx)(n9:b9)(σ:St)(tg:Expr)(R:It->Hp->Prop)(itv:Value)(s2:Shared):Prop
 |mk (it:Addr) (fp:b8) (tn:Nat->Heap->Prop) (J:It) (H':Hp) (e:itv=.ref it) (I:Inv X n9 σ H' s2) (T:Turn X.prog X.w X.K tg J fp it tn) (t0:tn 0 s2.heap) (f:(∀b∈fp,wC X n9 H' b)) (q:R J H')
def PI (X:Cx)(t i:Expr)(w:TI):Prop:=
 ∀(n9:b9)(s:Shared)(σ:St)(H:Hp)(R:It->Hp->Prop),Inv X n9 σ H s->w σ H R->
  qS X (eval i X.env) (λv S=>qS X (pyIter v) (Lw X n9 σ t R) X.xe S) X.xe s
def Th {A:Around}{i:Addr}{o:Obj}{n:String}{v:Array Value}{Q:Unit->Shared->Prop}(a:s.heap.get? i=some o)(c:o.cls=.type n)(d:o.data=.fields v)
  (b:["enumerate","zip","dict_itemiterator","dict_reverseitemiterator","odict_iterator","itertools.zip_longest","itertools.pairwise"].contains n=false)(H:Q () s):wpAny M A (letOwnedTupleGo tg (.ref i) u) Q E s:=by
 cases tg<;>first
  |(cases u<;>first
    |exact cA H
    |(
      refine cz (wpAny_load a ?_);rw[c,d];show wpAny M A (if (["enumerate","zip","dict_itemiterator","dict_reverseitemiterator","odict_iterator","itertools.zip_longest","itertools.pairwise"].contains n&&v[0]?==some (rawInt _))=true then _ else _) Q E s;rw[av (by intro h;rw[b,Bool.false_and]at h;cases h)]
      exact cA H))
noncomputable def LI (K:Frag)(a:Addr):It:=
 ⟨λi H=>∃X x,jd K H a X/\X[i]? =some x,λi H x h=>h=H/\∀X,jd K H a X->X[i]? =some x,λi H=>∃X,jd K H a X/\X.length<=i⟩
noncomputable def Lx (K:Frag)(a:Addr):It:=
 ⟨λi H=>∃X x,qy K H a X/\X[i]? =some x,λi H x h=>h=H/\∀X,qy K H a X->X[i]? =some x,λi H=>∃X,qy K H a X/\X.length<=i⟩
noncomputable def WL (l:Int)(n:Nat):It:=⟨λi _=>i<n,λi H x h=>h=H/\x=.int (l+i),λi _=>n<=i⟩
def DU {K:Frag}(a U:Addr):Turn P w K tg (LI K a) [U] U (λi h=>h.IsListIter U a i) where
 mem:=by simp
 obj:=λi h T b f=>by
  have e:=by simpa using f
  subst e;obtain⟨o,e,c,d⟩:=T;exact⟨o,e,λv z=>by rw[d]at z;cases z⟩
 keep:=λi h C T k=>T.at λo e=>k U (by simp) o e
 item:=by
  intro X n hw t B i Z s σ H E I hf T l;subst n hw t;obtain⟨xs,x,q,j⟩:=l;obtain⟨g,r,p,J⟩:=I.list q;obtain⟨u,M,ru⟩:=r.get j;obtain⟨f0,f1,f2,A,f4,y⟩:=hf U (by simp)
  refine wpAny_pyNext_list_item T p.isList (by simpa using M) λC S D=>?_
  obtain⟨o,e,c,d⟩:=id S;exact⟨u,rfl,Th e c d (by decide) ⟨x,H,(I.turned (λb o f e=>(D.2 b f).trans e) f0 f1 A f4 y),ru,⟨rfl,λY L=>by rw[I.list_inj L q];exact j⟩,S,λb f=>(hf b f).1⟩⟩
 done:=by
  intro X n hw t B i Z s σ H E I hf T l;subst n hw t;obtain⟨xs,q,j⟩:=l;obtain⟨g,r,p,J⟩:=I.list q;obtain⟨f0,f1,f2,A,f4,y⟩:=hf U (by simp)
  have Q:=r.length;exact wpAny_pyNext_list_end (I.ok.hd B) T p.isList (by simp;lia) λC N=>⟨rfl,I.turned (λb o f e=>N b o f e) f0 f1 A f4 y⟩
 self:=λ_ _ _ _ _ T h=>wpAny_pyIter_listiter T h
def EV {K:Frag}(a U:Addr):Turn P w K tg (Lx K a) [U] U (λi h=>h.IsTupleIter U a i) where
 mem:=by simp
 obj:=λi h T b g=>by
  have e:=by simpa using g
  subst e;obtain⟨o,e,c,d⟩:=T;exact⟨o,e,λv z=>by rw[d]at z;cases z⟩
 keep:=λi h C T k=>T.at λo e=>k U (by simp) o e
 item:=by
  intro X n hw t B i Z s σ H E I hf T l;subst n hw t;obtain⟨xs,x,q,j⟩:=l;obtain⟨f,r,p,J⟩:=I.tuple q;obtain⟨u,M,ru⟩:=r.get j;obtain⟨f0,f1,f2,A,f4,y⟩:=hf U (by simp)
  refine wpAny_pyNext_tuple_item T (show s.heap.IsTuple a f.toArray from p) (by simpa using M) λC S D=>?_
  obtain⟨o,e,c,d⟩:=id S;exact⟨u,rfl,Th e c d (by decide) ⟨x,H,(I.turned (λb o g e=>(D.2 b g).trans e) f0 f1 A f4 y),ru,⟨rfl,λY L=>by rw[I.tuple_inj L q];exact j⟩,S,λb g=>(hf b g).1⟩⟩
 done:=by
  intro X n hw t B i Z s σ H E I hf T l;subst n hw t;obtain⟨xs,q,j⟩:=l;obtain⟨f,r,p,J⟩:=I.tuple q;obtain⟨f0,f1,f2,A,f4,y⟩:=hf U (by simp)
  have Q:=r.length;exact wpAny_pyNext_tuple_end (I.ok.hd B) T (show s.heap.IsTuple a f.toArray from p) (by simp;lia) λC N=>⟨rfl,I.turned (λb o g e=>N b o g e) f0 f1 A f4 y⟩
 self:=λ_ _ _ _ _ T h=>wpAny_pyIter_tupleiter T h
def Dm {K:Frag}(x:Addr)(L:Int)(n:Nat):Turn P w K tg (WL L n) [x] x (λi h=>IsRangeIter h x (L+(i:Nat) * 1) ((n:Int)-(i:Nat)) 1) where
 mem:=by simp
 obj:=λi h u b a=>by
  have e:=by simpa using a
  subst e;exact⟨_,u,λv z=>by cases z⟩
 keep:=λi h p u k=>k x (by simp) _ u
 item:=by
  intro X j J l c i y s M H E I A u g;subst j J l;obtain⟨D,C,Q,d,B,f⟩:=A x (by simp)
  refine(Walks.range (I.ok.hd c) x L 1 n).item i s _ _ g u λv p T q S N=>?_;obtain⟨t,rfl⟩:=q;refine⟨_,rfl,Th S rfl rfl (by decide) ⟨.int (L+i),H,(I.turned (λb o a e=>N b o (by simpa using a) e) D C d B f),⟨t,?_⟩,⟨rfl,rfl⟩,S,λb a=>(A b a).1⟩⟩
  rw[mul_one]
 done:=by
  intro X j J l c i y s M H E I A u g;obtain⟨D,C,Q,d,B,f⟩:=A x (by simp)
  exact wpAny_pyNext_range_end (I.ok.hd c) u (by have:n<=i:=g;lia) λp r=>⟨rfl,I.turned (λb o a e=>r b o a e) D C d B f⟩
 self:=λ_ _ _ _ _ u h=>wpAny_pyIter_rangeiter u h
section
variable {X:Cx}
def OJ {j:St}{H:Hp}{R:It->Hp->Prop}{l g:Int}{t u v:Tok}{T:Nat}(I:Inv X n9 j H s)(p:-(2 ^ 62)<=l)(n:l<2 ^ 62)(c:-(2 ^ 62)<=g)(a:g<2 ^ 62)
  (q:R (WL l (g-l).toNat) H):qS X (pyIter (.ref s.heap.objs.size)) (Lw X n9 j tg R) E { s with heap:=s.heap.push { cls:=.type "range",data:=.fields #[.int l t,.int g u,.int 1 v] },toks:=T }:=by
 refine wpAny_pyIter_range (IsRange.new ..) (small_one p n c a) ?_;have i:Inv X n9 j H { s with heap:=s.heap.push { cls:=.type "range",data:=.fields #[.int l t,.int g u,.int 1 v] },toks:=T }:=I.kept λb o e=>af _ e
 refine⟨(s.heap.push { cls:=.type "range",data:=.fields #[.int l t,.int g u,.int 1 v] }).objs.size,[(s.heap.push { cls:=.type "range",data:=.fields #[.int l t,.int g u,.int 1 v] }).objs.size],_,_,H,rfl,
  i.kept λb o e=>af _ e,Dm _ l (g-l).toNat,?_,λb h=>?_,q⟩
 ·have f:l+((0:Nat):Int) * 1=l:=by simp
  have d:(((g-l).toNat:Nat):Int)-((0:Nat):Int)=Builtin.Range.rangeSize l g 1:=by rw[rangeSize_one];split<;>lia
  rw[f,d];exact ay _ rfl
 ·have e:b=(s.heap.push { cls:=.type "range",data:=.fields #[.int l t,.int g u,.int 1 v] }).objs.size:=by simpa using h
  subst e;exact i.fpOk (ax _) (i.hok.fresh (ax _))
def dH (t:TA):TI:=λa H R=>t a H λv h=>∃j:Int,v=[.int j]/\-(2 ^ 62)<=j/\j<2 ^ 62/\R (WL 0 j.toNat) h
def dI (t:TA):TI:=λa H R=>t a H λv h=>∃i j:Int,v=[.int i,.int j]/\(-(2 ^ 62)<=i/\i<2 ^ 62/\-(2 ^ 62)<=j/\j<2 ^ 62)/\R (WL i (j-i).toNat) h
def Co {a:Expr}{T:TA}(g:Gl X "range")(o:X.mg "range"=none)(i:PA X [a] T)(f:starEach [a] X.env=[(false,eval a X.env)]:=by rfl):PI X tg (.Call (.Name "range" p) [a] [] og) (dH T):=by
 intro P s n H R I h;refine Call_ (ZV I g o boot_range (PyProof.Rows.callWith_type1 (zT (i og P s n H _ I h) λu S ⟨v,w,l,c,Q⟩=>?_) f rfl));obtain⟨j,e,Q,d,q⟩:=Q;subst e;cases c with
 |cons r b=>
  cases b;obtain⟨t,rfl⟩:=r;exact call_range_1 (OJ l (by lia) (by lia) Q d (by simpa using q))
def Cb {a b:Expr}{T:TA}(v:Gl X "range")(z:X.mg "range"=none)(w:PA X [a,b] T)(u:starEach [a,b] X.env=[(false,eval a X.env),(false,eval b X.env)]:=by rfl)(c:starEach [b] X.env=[(false,eval b X.env)]:=by rfl):
  PI X tg (.Call (.Name "range" p) [a,b] [] og) (dI T):=by
 intro P s y H R I h;refine Call_ (ZV I v z boot_range (PyProof.Rows.callWith_type1 (zT (w og P s y H _ I h) λU S ⟨A,C,x,f,Q⟩=>?_) (by rw[u,c]) (by rw[c];rfl)))
 obtain⟨i,j,e,⟨Q,o,n,l⟩,q⟩:=Q;subst e;cases f with
 |cons r d=>
  cases d with
  |cons g d=>
   cases d;obtain⟨t,rfl⟩:=r;obtain⟨B,rfl⟩:=g;exact call_range_2 (OJ x Q o n l q)
def dJ (w:TI)(g:TG)(t:TS):TS:=λD d H=>w d H λJ e=>∃W:Nat->Nat->St->Hp->Prop,(∃m,W 0 m d e)/\∀i m d H,W i m d H->
 (J.stop i H/\D.nx d H)∨(J.go i H/\∃N:St->Hp->Prop,(∀a h,N a h->∃M,M<m/\W (i+1) M a h)/\∀x h,J.yld i H x h->g x d h λb c=>t { D with nx:=N,ct:=N,bk:=D.nx } b c)
noncomputable def K1 (f:b8)(h:Heap):b9:=f.filterMap λb=>(h.get? b).map λo=>(b,o)
def Gk {o:Obj}(H:b∈fp)(e:h.get? b=some o):(b,o)∈K1 fp h:=List.mem_filterMap.mpr ⟨b,H,by rw[e];rfl⟩
def D6 {p:Addr×Obj}(H:p∈K1 fp h):p.1∈fp/\h.get? p.1=some p.2:=by
 obtain⟨b,a,e⟩:=List.mem_filterMap.mp H;cases q:h.get? b with
 |none=>rw[q]at e;cases e|some o=>
  rw[q]at e;have E:=aB e;subst E;exact⟨a,q⟩
def Inv.pinned {f:St}{H:Hp}(I:Inv X n9 f H s)(g:∀b∈fp,wC X n9 H b)(c:∀b∈fp,∃o,s.heap.get? b=some o/\∀v,o.data≠.cell v):Inv X (n9++K1 fp s.heap) f H s:=
 I.pins_of λp a=>(cH.mp a).elim (λz=>I.pin p (a6 _ z)) λz=>by obtain⟨h,e⟩:=D6 z;obtain⟨l,j,i,_⟩:=g p.1 h;obtain⟨o,E,d⟩:=c p.1 h;rw[e]at E;cases E;exact⟨e,l,j,i,d⟩
def Inv.unpinned {P:b9}{a:St}{H:Hp}(I:Inv X (n9++P) a H s):Inv X n9 a H s:=I.pins_of λp h=>I.pin p (a6 _ (List.mem_append_left _ h))
def dM {oj:Expr}{U:TI}{g:TG}{Z:TS}(z:PassesOwn (model X.prog X.w) X.A X.env X.xe)(hc:X.calm=true)(hi:PI X tg oj U)(hg:PG X tg g)(l:yL X body Z)
  (hs:∀x,foldedSetIterable oj X.env x=pure x:=by intro _;rfl):PS X (.For tg oj body [] og) (dJ U g Z):=by
 intro n9 s σ H D I h;refine wpAny_For (zT (hi n9 s σ H _ I h) λv s1 h1=>zT h1 λitv s2 h2=>?_) hs;obtain⟨it,C,Y,J,H2,e,I2,T,g0,f2,W,⟨m0,w0⟩,turn⟩:=h2;subst e;have S:∀{H':Hp},(∀b∈C,H' b=none)->∀b∈C,wC X n9 H' b:=λhn b l=>⟨hn b l,(f2 b l).2⟩;refine codeAny_forLoop_any (λn s'=>∃i j H',Inv X n9 j H' s'/\Y i s'.heap/\(∀b∈C,H' b=none)/\W i n j H') ?_ m0 ⟨0,σ,H2,I2,g0,λb l=>(f2 b l).1,w0⟩
 rintro n s3 ⟨i,c,E,I3,Js,B,w3⟩
 rcases turn i n c E w3 with ⟨stop,qn⟩|⟨go,N,hN,step⟩
 ·refine wpAny_passesOwn z (zT (T.done X rfl rfl rfl hc i n9 s3 c E X.xe I3 (S B) Js stop) λr s4 ⟨M,I4⟩=>?_)
  subst M;exact wpAny_execs_nil ⟨c,E,I4,qn⟩
 ·refine wpAny_passesOwn z (zT (T.item X rfl rfl rfl hc i n9 s3 c E X.xe I3 (S B) Js go) λr s4 ⟨u,M,h4⟩=>?_)
  subst M;refine wpAny_passesOwn z (zT h4 λ_ s5 ⟨x,H5,I5,r5,y5,t,P⟩=>?_);refine wpAny_passesOwn z (zT (hg _ s5 c H5 x u _ (I5.pinned (S P) (T.obj _ _ t)) r5 (step x H5 y5)) λ_ s6 ⟨K,H6,I6,q6⟩=>?_);refine wpAny_passesOwn z (zT (l _ s6 K H6 _ I6 q6) λf L Q=>?_);have again:∀{a:St}{q:Hp},Inv X (n9++K1 C s5.heap) a q L->N a q->∃m,m<n/\∃i j H',Inv X n9 j H' L/\Y i L.heap/\(∀b∈C,H' b=none)/\W i m j H':=λ {a q} p y=>by obtain⟨m',hm,w7⟩:=hN a q y;refine⟨m',hm,i+1,a,q,p.unpinned,T.keep _ _ _ t λb l o e=>(p.pin (b,o) (a6 _ (a6 _ (Gk l e)))).1,λb l=>?_,w7⟩;obtain⟨o,e,d⟩:=T.obj _ _ t b l;exact(p.pin (b,o) (a6 _ (a6 _ (Gk l e)))).2.1
  cases f with|next=>obtain⟨a,q,p,y⟩:=Q;exact again p y|cont=>obtain⟨a,q,p,y⟩:=Q;exact again p y|brk=>obtain⟨a,q,p,Q⟩:=Q;exact⟨a,q,p.unpinned,Q⟩|ret v=>obtain⟨x7,a,q,p,r7,Q⟩:=Q;exact⟨x7,a,q,p.unpinned,r7,Q⟩
end
abbrev R2:=V->V->Hp->VK->Prop
def qM (X:Cx)(f:Value->Value->Sem Value)(r:R2):Prop:=
 ∀(n9:b9)(s:Shared)(σ:St)(H:Hp)(x y:V)(v u:Value)(Q:VK),Inv X n9 σ H s->RelV x v->RelV y u->r x y H Q->
  qS X (f v u) (EP X n9 σ Q) X.xe s
def XM (X:Cx)(f:Value->Sem Value)(r:V->Hp->VK->Prop):Prop:=
 ∀(n9:b9)(s:Shared)(σ:St)(H:Hp)(x:V)(v:Value)(Q:VK),Inv X n9 σ H s->RelV x v->r x H Q->
  qS X (f v) (EP X n9 σ Q) X.xe s
def jU (X:Cx)(f:Value)(r:List V->Hp->VK->Prop):Prop:=
 ∀(n9:b9)(s:Shared)(σ:St)(H:Hp)(xs:List V)(us:b0)(Q:VK),Inv X n9 σ H s->Vals xs us->r xs H Q->
  qS X (call f us) (EP X n9 σ Q) X.xe s
def WA (r:R2)(T t:TE):TE:=λa H Q=>T a H λx b=>t a b λy h=>r x y h Q
def LN (r:V->Hp->VK->Prop)(t:TE):TE:=λa H Q=>t a H λx h=>r x h Q
def rI (C:Int->Int->Prop)(g:Int->Int->V):R2:=λx y H Q=>∃i j,x=.int i/\y=.int j/\C i j/\Q (g i j) H
def Qk (g:Int->Int->V):R2:=λx y H Q=>∃i j,x=.int i/\y=.int j/\Q (g i j) H
def rU (g:Int->V):V->Hp->VK->Prop:=λx H Q=>∃i,x=.int i/\Q (g i) H
section
variable {X:Cx}{a b:Expr}{ta tb:TE}
def Tu (j:PE X a ta)(i:PE X b tb){o:St}{H:Hp}{R:V->V->Hp->Prop}(I:Inv X n9 o H s)
  (h:ta o H λx t=>tb o t λy c=>R x y c){f:Value->Value->Sem Value}
  (z:∀v u p x y c,Inv X n9 o c p->RelV x v->RelV y u->R x y c->qS X (f v u) Q X.xe p):
  qS X (eval a X.env) (λv d=>qS X (eval b X.env) (λu S=>qS X (f v u) Q X.xe S) X.xe d) X.xe s:=by
 refine zT (j n9 s o H _ I h) λv w ⟨x,t,n,e,g⟩=>?_;refine zT (i n9 w o t _ n g) λu p ⟨y,c,l,r,q⟩=>?_;exact z v u p x y c l e r q
def dN {j:Operator}{r:R2}(o:qM X (binaryOp j) r)(f:PE X a ta)(e:PE X b tb):PE X (.BinOp a j b og) (WA r ta tb):=by intro p s l H Q I h;exact wpAny_BinOp (Tu f e I h λv u S x y g i d c q=>o p S l g x y v u Q i d c q)
def dO {e:UnaryOp}{r:V->Hp->VK->Prop}(o:XM X (unaryOp e) r)(c:PE X a ta):PE X (.UnaryOp e a og) (LN r ta):=by intro p s d H Q I h;exact UnaryOp_ (zT (c p s d H _ I h) λv S ⟨x,f,i,b,q⟩=>o p S d f x v Q i b q)
def XW {f:Value->Value->Sem Value}{C:Int->Int->Prop}{g:Int->Int->Int}
  (e:∀(i j:Int)(t u:Tok)(s:Shared)(Q:cg)(E:cg),C i j->Q (.int (g i j) s.toks) { s with toks:=s.toks+1 }->qS X (f (.int i t) (.int j u)) Q E s):
  qM X f (rI C λi j=>.int (g i j)):=by
 intro p s b H x y v u Q I a r h;obtain⟨i,j,rfl,rfl,c,q⟩:=h;obtain⟨t,rfl⟩:=a;obtain⟨T,rfl⟩:=r;exact e i j t T s _ _ c ⟨.int (g i j),H,I.tok _,⟨_,rfl⟩,q⟩
def TX {f:Value->Value->Sem Value}{g:Int->Int->Int}
  (e:∀(i j:Int)(t u:Tok)(s:Shared)(Q:cg)(E:cg),Q (.int (g i j) s.toks) { s with toks:=s.toks+1 }->qS X (f (.int i t) (.int j u)) Q E s):
  qM X f (Qk λi j=>.int (g i j)):=by
 intro p s b H x y v u Q I a r h;obtain⟨i,j,rfl,rfl,q⟩:=h;obtain⟨t,rfl⟩:=a;obtain⟨T,rfl⟩:=r;exact e i j t T s _ _ ⟨.int (g i j),H,I.tok _,⟨_,rfl⟩,q⟩
def TQ {f:Value->Value->Sem Value}{g:Int->Int->Bool}
  (e:∀(i j:Int)(t u:Tok)(s:Shared)(Q:cg)(E:cg),Q (.bool (g i j)) s->qS X (f (.int i t) (.int j u)) Q E s):
  qM X f (Qk λi j=>.bl (g i j)):=by
 intro p s b H x y v u Q I a r h;obtain⟨i,j,rfl,rfl,q⟩:=h;obtain⟨t,rfl⟩:=a;obtain⟨T,rfl⟩:=r;exact e i j t T s _ _ ⟨.bl (g i j),H,I,rfl,q⟩
def M7 (i j:Int):Prop:=0<=j/\j<=1000000/\i.natAbs<2 ^ 64
def Wn (i j:Int):Prop:=(-(2 ^ 64)<i/\i<2 ^ 64)∨(-(2 ^ 64)<j/\j<2 ^ 64)∨i.natAbs<2 ^ 256/\j.natAbs<2 ^ 256
def Wn.ok {i j:Int}(h:Wn i j):IntMulOk i j:=by
 rcases h with ⟨a,H⟩|⟨a,H⟩|⟨a,H⟩
 ·exact .of_left (intBits_le_64 a H)
 ·exact .of_right (intBits_le_64 a H)
 ·exact .of_le (PySem.intBits_le_iff.mpr a) (PySem.intBits_le_iff.mpr H) (by decide)
def dP:qM X (binaryOp .Add) (Qk λi j=>.int (i+j)):=TX λ_ _ _ _ _ _ _ q=>add_int q
def dQ:qM X (binaryOp .Sub) (Qk λi j=>.int (i-j)):=TX λ_ _ _ _ _ _ _ q=>sub_int q
def dR:qM X (binaryOp .Mult) (rI Wn λi j=>.int (i * j)):=XW λ_ _ _ _ _ _ _ h q=>mul_int q h.ok
def dS:qM X (binaryOp .Mod) (rI (λ_ j=>0<j) λi j=>.int (i%j)):=XW λi j _ _ _ _ _ h q=>by exact mod_int' (by lia) (by rw[Int.fmod_eq_emod_of_nonneg i (by lia)];exact q)
def dT:qM X (binaryOp .Pow) (rI M7 λi j=>.int (i ^ j.toNat)):=XW λ_ _ _ _ _ _ _ h q=>pow_int_small h.1 h.2.1 h.2.2 q
def dU:qM X (binaryOp .BitXor) (Qk λi j=>.int (Builtin.bitXor i j)):=TX λ_ _ _ _ _ _ _ q=>xor_int q
def dV {f:Value->Sem Value}{g:Int->Int}
  (e:∀(i:Int)(t:Tok)(s:Shared)(Q:cg)(E:cg),Q (.int (g i) s.toks) { s with toks:=s.toks+1 }->qS X (f (.int i t)) Q E s):
  XM X f (rU λi=>.int (g i)):=by
 intro p s a H x v Q I r h;obtain⟨i,rfl,q⟩:=h;obtain⟨t,rfl⟩:=r;exact e i t s _ _ ⟨.int (g i),H,I.tok _,⟨_,rfl⟩,q⟩
def dW:XM X (unaryOp .USub) (rU λi=>.int (-i)):=dV λ_ _ _ _ _ q=>neg_int q
variable {c:Expr}{tc:TE}
def dX {a:St}{H:Hp}{Q:VK}{k K:Bool}(I:Inv X n9 a H s)(q:Q (.bl k) H)(e:k=K):EP X n9 a Q (.bool K) s:=by subst e;exact⟨.bl k,H,I,rfl,q⟩
def dY:qM X (compareOp .Lt) (Qk λi j=>.bl (decide (i<j))):=TQ λ_ _ _ _ _ _ _ q=>lt_int q
def dZ:qM X (compareOp .LtE) (Qk λi j=>.bl (decide (i<=j))):=TQ λ_ _ _ _ _ _ _ q=>le_int q
def d0:qM X (compareOp .GtE) (Qk λi j=>.bl (decide (j<=i))):=TQ λ_ _ _ _ _ _ _ q=>ge_int q
def d1:qM X (compareOp .IsNot) (λx y H Q=>y=.non/\Q (.bl (!decide (x=.non))) H):=by
 intro p s b H x y v u Q I a r h;obtain⟨rfl,q⟩:=h;cases r;refine isnot_none_gen (dX I q ?_);cases x<;>first
  |(obtain⟨t,rfl⟩:=a;rfl)
def qM.or {f:Value->Value->Sem Value}{r c:R2}(h:qM X f r)(d:qM X f c):qM X f (λx y H Q=>r x y H Q∨c x y H Q):=by
 intro p s e H x y v u Q I b a q;rcases q with q|q
 ·exact h p s e H x y v u Q I b a q
 ·exact d p s e H x y v u Q I b a q
def d2 {r:R2}(o:qM X (compareOp op) r)(f:PE X a ta)(e:PE X b tb)(l:behindInMarks op b=false):PE X (.Compare a [op] [b] og) (WA r ta tb):=by intro p s j H Q I h;exact wpAny_Compare1 (Tu f e I h λv u S x y g i d c q=>o p S j g x y v u Q i d c q) l
def M4 (t:TE):TT:=λa H Q=>t a H λx h=>∃k,x=.bl k/\Q k h
def d3 {r:R2}(o:qM X (compareOp op) r)(n:PE X a ta)(l:PE X b tb)(E:behindInMarks op b=false):PT X (.Compare a [op] [b] og) (M4 (WA r ta tb)):=by
 intro P s C H Q I h;refine wpAny_isTrue_Compare1 (zT (n P s C H _ I h) λv D ⟨x,J,w,g,j⟩=>zT (l P D C J _ w j) λu S ⟨y,B,t,f,i⟩=>
  zT (o P S C B x y v u _ t g f i) λc K ⟨z,A,p,d,k,e,q⟩=>?_) E
 subst e;cases d;exact wpAny_truthy_bool ⟨A,p,q⟩
def UM (r b:R2)(a T t:TE):TE:=λe H Q=>a e H λx f=>T e f λy d=>r x y d λz h=>∃k,z=.bl k/\
 (if k=true then t e h λw c=>b y w c Q else Q (.bl false) h)
def Ag {o:CmpOp}{r i:R2}(D:qM X (compareOp op) r)(f:qM X (compareOp o) i)(K:PE X a ta)(J:PE X b tb)(E:PE X c tc)
  (hm:lastMarks [op,o] [b,c]=false:=by with_unfolding_all rfl):PE X (.Compare a [op,o] [b,c] og) (UM r i ta tb tc):=by
 intro T s U H Q I h;refine Compare_chain (zT (K T s U H _ I h) λv s1 ⟨x,H1,N,t,C⟩=>chain_link (zT (J T s1 U H1 _ N C) λu s2 ⟨y,S,M,g,B⟩=>
  zT (D T s2 U S x y v u _ M t g B) λd s3 ⟨z,l,j,p,k,e,q⟩=>?_)) hm
 subst e;cases p;refine wpAny_truthy_bool ?_;cases k with|false=>exact ite_ff ⟨.bl false,l,j,rfl,q⟩|true=>exact ite_tt (chain_last (zT (E T s3 U l _ j q) λw Y ⟨Z,P,L,n,A⟩=>f T Y U P y Z u w Q L g n A))
def C0 {o:CmpOp}{r i:R2}(K:qM X (compareOp op) r)(f:qM X (compareOp o) i)(N:PE X a ta)(M:PE X b tb)(L:PE X c tc)
  (hm:lastMarks [op,o] [b,c]=false:=by with_unfolding_all rfl):PT X (.Compare a [op,o] [b,c] og) (M4 (UM r i ta tb tc)):=by
 intro n9 s σ H Q I h;refine isTrue_chain (zT (N n9 s σ H _ I h) λv s1 ⟨x,H1,I1,A,E⟩=>test_link (zT (M n9 s1 σ H1 _ I1 E) λu s2 ⟨y,H2,Y,g,D⟩=>
  zT (K n9 s2 σ H2 x y v u _ Y A g D) λd s3 ⟨z,l,j,t,k,e,q⟩=>?_)) hm
 subst e;cases t;refine wpAny_truthy_bool ?_;cases k with
 |false=>
  obtain⟨k',S,J⟩:=q;cases S;exact ite_ff ⟨l,j,J⟩
 |true=>
  refine ite_tt (test_last (zT (L n9 s3 σ l _ j q) λw s4 ⟨Z,H4,U,p,C⟩=>zT (f n9 s4 σ H4 y Z u w _ U g p C) λd' s5 ⟨z2,H5,T,n,k2,P,B⟩=>?_));subst P;cases n;exact wpAny_truthy_bool ⟨H5,T,B⟩
def YQ:(sizeLine:Nat)<2 ^ 63:=by rw[sizeLine_eq];decide
def vals1 {x:V}(r:Vals [x] us):∃u,us=[u]/\RelV x u:=by
 cases r with|cons b a=>cases a;exact⟨_,rfl,b⟩
def vals2 {x y:V}(r:Vals [x,y] us):∃u w,us=[u,w]/\RelV x u/\RelV y w:=by
 cases r with
 |cons d c=>
  cases c with|cons b a=>cases a;exact⟨_,_,rfl,d,b⟩
def Aj:jU X (.builtin "abs") (λxs H Q=>∃i,xs=[.int i]/\Q (.int (if i<0 then -i else i)) H):=by
 intro p s a H xs U Q I r h;obtain⟨i,rfl,q⟩:=h;obtain⟨u,rfl,t,rfl⟩:=vals1 r;exact call_abs_int λu T=>⟨.int (if i<0 then -i else i),H,I.tok _,⟨_,rfl⟩,q⟩
def Cr (c:X.calm=true):jU X (.builtin "max") (λxs H Q=>∃i j,xs=[.int i,.int j]/\Q (.int (if j > i then j else i)) H):=by
 intro p s d H xs U Q I r h;obtain⟨i,j,rfl,q⟩:=h;obtain⟨u,w,rfl,⟨t,rfl⟩,⟨e,rfl⟩⟩:=vals2 r;refine max_two_ints (I.ok.hd c) λb T k=>⟨_,H,I.kept k,?_,q⟩
 by_cases a:j > i
 ·rw[aj a,aj a];exact⟨_,rfl⟩
 ·rw[av a,av a];exact⟨_,rfl⟩
def DI (c:X.calm=true):jU X (.builtin "min") (λxs H Q=>∃i j,xs=[.int i,.int j]/\Q (.int (if j<i then j else i)) H):=by
 intro p s d H xs U Q I r h;obtain⟨i,j,rfl,q⟩:=h;obtain⟨u,w,rfl,⟨t,rfl⟩,⟨e,rfl⟩⟩:=vals2 r;refine min_two_ints (I.ok.hd c) λb T k=>⟨_,H,I.kept k,?_,q⟩
 by_cases a:j<i
 ·rw[aj a,aj a];exact⟨_,rfl⟩
 ·rw[av a,av a];exact⟨_,rfl⟩
def Cm:jU X (.type "int") (λxs H Q=>(∃i,xs=[.int i]/\Q (.int i) H)∨∃k,xs=[.bl k]/\Q (.int (if k then 1 else 0)) H):=by
 intro p s b H xs U Q I r h;rcases h with ⟨i,rfl,q⟩|⟨k,rfl,q⟩
 ·obtain⟨u,rfl,t,rfl⟩:=vals1 r
  exact call_int_int ⟨.int i,H,I,⟨_,rfl⟩,q⟩
 ·obtain⟨u,rfl,a⟩:=vals1 r
  cases a;exact call_int_bool ⟨.int (if k then 1 else 0),H,I.tok _,⟨_,rfl⟩,q⟩
end
def Wo.some_of {v:V}{o:cc}(r:Wo (some v) o):∃u,o=some u/\RelV v u:=by
 cases o with|none=>exact(show False from r).elim|some u=>exact⟨u,rfl,r⟩
section
variable {X:Cx}{σ:St}{H:Hp}{A:Around}{c:Value}{b:Bool}
inductive Qa (K:Frag)(H:Hp):V->Value->Prop where
 |non:Qa K H .non (.type "NoneType")
 |bl (x:Bool):Qa K H (.bl x) (.type "bool")
 |int (i:Int):Qa K H (.int i) (.type "int")
 |str (x:Str):Qa K H (.str x) (.type "str")
 |lst {a:Addr} {xs:List V} (e:H a=some (.lst xs)):Qa K H (.ref a) (.type "list")
 |frz {a:Addr} {o:Obj} {xs:List V} (e:H a=some (.frz o (.lst xs))):Qa K H (.ref a) (.type "list")
 |tup {a:Addr} {xs:List V} (e:H a=some (.tup xs)):Qa K H (.ref a) (.type "tuple")
 |dK {a:Addr} {oo:List (Key×V)} (e:H a=some (.dK oo)):Qa K H (.ref a) (.type "dict")
def Oe {x:V}{t:Value}(I:Inv X n9 σ H s)(r:RelV x u)(ty:Qa X.K H x t)(e:kitOne X.K t c=some b)(h:∀tk,Q (.bool b) { s with toks:=tk }):
  wpAny (model X.prog X.w) A (call (.builtin "isinstance") [u,c]) Q E s:=by
 cases ty with
 |non=>cases (show u=Value.none from r);exact kia_one kitx_none I.kIn True.intro e (λz=>nomatch z) h
 |bl y=>cases (show u=Value.bool y from r);exact kia_one kitx_bool I.kIn True.intro e (λz=>nomatch z) h
 |int i=>obtain⟨t,q⟩:=(show ∃t,u=Value.int i t from r);cases q;exact kia_one kitx_int I.kIn True.intro e (λz=>nomatch z) h
 |str y=>obtain⟨t,q⟩:=(show ∃t,u=Value.str y t from r);cases q;exact kia_one kitx_str I.kIn True.intro e (λz=>nomatch z) h
 |@lst a xs ea=>
  cases (show u=Value.ref a from r)
  obtain⟨_,_,n,_,g⟩:=(show jk X.prog X.w H s.heap a (.lst xs) from I.hok a _ ea)
  exact kia_one kitx_list I.kIn ⟨_,g,rfl⟩ e (λz=>nomatch z) h
 |@frz a ob xs ea=>
  cases (show u=Value.ref a from r)
  obtain⟨_,_,_,n,_,g⟩:=(show jk X.prog X.w H s.heap a (.frz ob (.lst xs)) from I.hok a _ ea)
  exact kia_one kitx_list I.kIn ⟨_,g,rfl⟩ e (λz=>nomatch z) h
 |@tup a xs ea=>
  cases (show u=Value.ref a from r)
  obtain⟨_,_,_,p⟩:=(show jk X.prog X.w H s.heap a (.tup xs) from I.hok a _ ea)
  obtain⟨o,g,j,_⟩:=p;exact kia_one kitx_tuple I.kIn ⟨o,g,j.1⟩ e (λz=>nomatch z) h
 |@dK a oo ea=>
  cases (show u=Value.ref a from r)
  obtain⟨_,_,v,_,p⟩:=(show jk X.prog X.w H s.heap a (.dK oo) from I.hok a _ ea)
  obtain⟨o,d,f,g,j,_⟩:=p;exact kia_one kitx_dict I.kIn ⟨o,g,j.1⟩ e (λz=>nomatch z) h
end
structure jb (k:Nat)(A:Around):Prop where
 hd:A.handled=none
 dp:A.depth+3 * k+5<recursionLimit
 un:A.units+16 * k+200<cLine
 gd:A.guards=some []
def jb.mono {k:Nat}{A:Around}(r:jb k A)(h:j<=k):jb j A:=⟨r.hd,by have:=r.dp;lia,by have:=r.un;lia,r.gd⟩
theorem jb.deeper {k:Nat}{A:Around}(r:jb (k+1) A)(e:Env):jb k (A.deeper e):=
 ⟨r.hd,by have:=r.dp;show A.depth+1+3 * k+5<_;lia,by have:=r.un;show A.units+3+16 * k+200<_;lia,r.gd⟩
theorem jb.depth {k:Nat}{A:Around}(r:jb k A):A.depth<recursionLimit:=by have:=r.dp;lia
theorem jb.units {k:Nat}{A:Around}(r:jb k A):A.units+64<cLine:=by have:=r.un;lia
def TV:TA:=λ_ H Q=>Q [] H
def Xp (T:TE)(t:TA):TA:=λa H Q=>T a H λx b=>t a b λX h=>Q (x::X) h
section
variable {X:Cx}{es:ck}{te:TE}{t:TA}
def jQ:PA X [] TV:=λ_ _ _ _ H Q I h=>Calls.spliced_nil ⟨[],H,I,.nil,h⟩
def qX (f:PE X e te)(d:PA X es t)(c:starEach (e::es) X.env=(false,eval e X.env)::starEach es X.env:=by rfl):PA X (e::es) (Xp te t):=by intro P p s l H Q I h;rw[c];refine Calls.spliced_cons (zT (f p s l H _ I h) λu S ⟨x,o,g,a,b⟩=>?_);exact zT (d P p S l o _ g b) λU v ⟨n,j,i,r,q⟩=>⟨x::n,j,i,.cons a r,q⟩
def d4 (t:TA):TE:=λa H Q=>t a H λx h=>x.length<=sizeLine/\∀p,h p=none->Q (.ref p) (upd h p (.tup x))
def d6 (t:TA):TE:=λa H Q=>t a H λx h=>x.length<=sizeLine/\∀p,h p=none->Q (.ref p) (upd h p (.lst x))
def Nx {x1}(h:PA X es t):PE X (.Tuple es x1 og) (d4 t):=by
 intro p s c H Q I a;refine wpAny_Tuple_spliced (zT (h og p s c H _ I a) λU S ⟨x,d,i,r,z,q⟩=>⟨by rw[<- r.length];exact z,?_⟩)
 refine⟨.ref S.heap.objs.size,upd d S.heap.objs.size (.tup x),i.laid (λb u e=>af _ e) (ax _) ?_,rfl,q _ (i.hok.fresh (ax _))⟩;exact⟨z,U,r,⟨_,ay _ rfl,⟨rfl,rfl⟩,_,rfl⟩⟩
def d7 (h:PA X es t):PE X (.List es og) (d6 t):=by
 intro p s c H Q I a;refine wpAny_List_spliced (zT (h og p s c H _ I a) λU S ⟨x,d,i,r,z,q⟩=>⟨by rw[<- r.length];exact z,?_⟩)
 refine⟨.ref S.heap.objs.size,upd d S.heap.objs.size (.lst x),i.laid (λb u e=>af _ e) (ax _) ?_,rfl,q _ (i.hok.fresh (ax _))⟩;exact⟨z,U,0,r,ay _ rfl⟩
end
abbrev Sp:=List V->Hp->VK->XK->Prop
abbrev Za:=List Env->Hp->Shared->XK->Value->Shared->Prop
structure Wr (P:Program)(w:World)(K:Frag)(mg:cn)(base:Heap)(A:Around)(outer:cq)(s:Shared)(H:Hp):Prop where
 frames:A.frames=some outer
 mod:Mod K mg base
 bs:∀b o,base.get? b=some o->s.heap.get? b=some o/\H b=none
 bsz:base.objs.size<=s.heap.objs.size
 funs:s.heap.FunFrames base outer
 frf:∀b∈qG outer,H b=none
 hok:qY P w H s.heap
 bare:AllBare s.gens
inductive CE (outer:cq)(P:Program)(w:World)(H:Hp)(s:Shared)(Q:VK)(u:Value)(s':Shared):Prop
 |mk (v:V) (H':Hp) (os:s'.os=s.os) (b:AllBare s'.gens) (un:Un (qG outer) [] H H' s.heap s'.heap) (hk:qY P w H' s'.heap) (r:RelV v u) (q:Q v H')
def CR (C:Za)(o:cq)(P:Program)(w:World)(H:Hp)(s:Shared)(Q:VK)(E:XK)(r:Result)(S:Shared):Prop:=
 match r with|.ok (.ret u)=>CE o P w H s Q u S|.ok _=>False|.error e=>C o H s E e S
structure yu (P:Program)(w:World)(K:Frag)(mg:cn)(base:Heap)(CX:Za)(k:Nat)(f:Addr)(fd:FuncData)(ps:cf)(sp:Sp):Prop where
 len:∀vs H Q E,sp vs H Q E->vs.length=ps.length
 run:∀(A:Around)(outer:cq)(s:Shared)(H:Hp)(oA:Args)(us:b0)(vs:List V)(Q:VK)(E:XK),jb k A->Wr P w K mg base A outer s H->BindsTo s fd oA (ps.zip us)->Vals vs us->sp vs H Q E->
  codeAny (model P w) A (.call (.ref f) oA) (CR CX outer P w H s Q E) s
theorem yu.mono {K:Frag}{C:Za}{k:Nat}{S:Sp}(F:yu P w K mg base C j f fd ps S)(h:j<=k):
  yu P w K mg base C k f fd ps S:=⟨F.len,λA o s H a u v Q E r=>F.run A o s H a u v Q E (r.mono h)⟩
def yu.imp {K:Frag}{C:Za}{k:Nat}{p S:Sp}(F:yu P w K mg base C k f fd ps p)
  (h:∀vs H Q E,S vs H Q E->p vs H Q E):yu P w K mg base C k f fd ps S:=
 ⟨λvs H Q E q=>F.len vs H Q E (h _ _ _ _ q),λA o s H c u vs Q E r e b v a=>F.run A o s H c u vs Q E r e b v (h _ _ _ _ a)⟩
section
variable {X:Cx}{σ:St}{H:Hp}
def Inv.env0 (I:Inv X n9 σ H s):Wr X.prog X.w X.K X.mg X.base X.A X.stack s H:=
 ⟨I.ok.frames,I.ok.mod,I.bs,bo I.ok.bsz I.sz,I.stack,I.stkFree,I.hok,I.bare⟩
def Inv.after {Q:VK}(I:Inv X n9 σ H s)(h:CE X.stack X.prog X.w H s Q u s'):EP X n9 σ Q u s':=by obtain⟨v,a,f,B,un,e,r,q⟩:=h;obtain⟨c,g,d,t,o⟩:=s';obtain rfl:o=s.os:=f;exact⟨v,a,I.call un e B (λb z=>absurd z (by simp)),r,q⟩
end
def d8 (s:Sp)(d:List V)(E:XK)(t:TA):TE:=λa H Q=>t a H λv h=>s (v++d) h Q E
def Binds (K:Frag)(f:FuncData)(p:cf)(ds:b0):Prop:=
 ∀(s:Shared)(us:b0),K.In s.heap->(us++ds).length=p.length->BindsTo s f ⟨us,[]⟩ (p.zip (us++ds))
def Binds.all {K:Frag}(h:∀u:b0,u.length=ps.length->bindArgs fd ⟨u,[]⟩=pure (ps.zip u)):Binds K fd ps []:=λs u _ H=>by rw[bq]at H ⊢;exact .of_eq (h u H)
def Passes (C:Za)(X:Cx)(E:XK):Prop:=∀(n9:b9)(σ:St)(H:Hp)(s:Shared)(e:Value)(s':Shared),Inv X n9 σ H s->C X.stack H s E e s'->X.xe e s'
section
variable {X:Cx}{CX:Za}{k:Nat}{sp:Sp}{dvs:List V}{ds:b0}{E:XK}{es:ck}{t:TA}
def d9 {d:St}{H:Hp}{Q:VK}{v:List V}(F:yu X.prog X.w X.K X.mg X.base CX k f fd ps sp)(b:jb k X.A)(c:Binds X.K fd ps ds)(g:Vals dvs ds)(x:Passes CX X E)
  (I:Inv X n9 d H s)(r:Vals v us)(h:sp (v++dvs) H Q E):qS X (call (.ref f) us) (EP X n9 d Q) X.xe s:=by
 have a:=r.append g;refine wpAny_call (codeAny_mono (F.run X.A X.stack s H ⟨us,[]⟩ (us++ds) (v++dvs) Q E b I.env0 (c s us I.kIn (by rw[<- a.length];exact F.len _ _ _ _ h)) a h) λr S q=>?_)
 cases r with
 |error e=>exact x n9 d H s e S I q|ok fl=>
  cases fl with|ret u=>exact I.after q|next=>exact False.elim q|brk=>exact False.elim q|cont=>exact False.elim q
def Np (F:yu X.prog X.w X.K X.mg X.base CX k f fd ps sp)(c:jb k X.A)(g:Gl X x)(u:X.mg x=some (.ref f))(d:keepIn X.K (.ref f)=true)(j:Binds X.K fd ps ds)(y:Vals dvs ds)(a:Passes CX X E)
  (n:PA X (e::es) t)(b:(x==("__debug__":Str))=false:=by decide)(v:starEach (e::es) X.env=(false,eval e X.env)::starEach es X.env:=by rfl)(l:(backTo og (starEach es X.env)).any (·.1)=false:=by rfl):
  PE X (.Call (.Name x p) (e::es) [] og) (d8 sp dvs E t):=by
 intro P s o H Q I h;refine wpAny_Call_Name_kw (KL I g u ?_ b);refine callWith_K (h₀:=X.base) I.ok.mod.kin d (zT (n og P s o H _ I h) λU S ⟨z,B,i,r,q⟩=>⟨i.kIn,?_⟩) v l;exact d9 F c j y a i r q
end
structure yO (N P:cf)(sc:Scope):Prop where
 kind:sc.kind=.function
 co:sc.isCoroutine=false
 gen:sc.isGenerator=false
 nd:N.Nodup
 pre:N.take P.length=P
 par:∀x∈P,sc.names.lookup x=some .local∨sc.names.lookup x=some .cell
 nofree:∀y∈sc.names,y.2≠.free
theorem PC {K:Str->Option NameKind}:∀{binds:List (Str×Value)}{m:cn},(∀v,(x,v)∉binds)->bindL K binds m x=m x
 |[],_,_=>rfl|(n,v)::r,m,h=>by
  unfold bindL;rw[PC λw H=>h w (ao _ H)]
  split
  ·have:x≠n:=by rintro rfl;exact h v au
   simp[this]
  ·rfl
theorem P4 {K:Str->Option NameKind}:∀{binds:List (Str×Value)}{m:cn},(∀v,(x,v)∉binds)->bindC K binds m x=m x
 |[],_,_=>rfl|(n,v)::r,m,h=>by
  unfold bindC;rw[P4 λw H=>h w (ao _ H)]
  split
  ·rfl
  ·have:x≠n:=by rintro rfl;exact h v au
   simp[this]
theorem PH {K:Str->Option NameKind}{v:Value}:∀{P:cf}{s:b0}{i:Nat}{m:cn},P.Nodup->P[i]? =some x->s[i]? =some v->K x=some .local->
  bindL K (P.zip s) m x=some v
 |p::P,w::s,0,m,nd,h1,h2,h=>by simp at h1 h2;subst h1;subst h2;show bindL K ((p,w)::P.zip s) m p=_;unfold bindL;rw[PC λv H=>(List.nodup_cons.mp nd).1 (of_mem_zip H).1,aj h];simp
 |p::P,w::s,i+1,m,nd,h1,h2,h=>by show bindL K ((p,w)::P.zip s) m x=_;exact PH (List.nodup_cons.mp nd).2 (by simpa using h1) (by simpa using h2) h
theorem PZ {K:Str->Option NameKind}{v:Value}:∀{P:cf}{s:b0}{i:Nat}{m:cn},P.Nodup->P[i]? =some x->s[i]? =some v->K x≠some .local->
  bindC K (P.zip s) m x=some v
 |p::P,w::s,0,m,nd,h1,h2,h=>by simp at h1 h2;subst h1;subst h2;show bindC K ((p,w)::P.zip s) m p=_;unfold bindC;rw[P4 λv H=>(List.nodup_cons.mp nd).1 (of_mem_zip H).1,av h];simp
 |p::P,w::s,i+1,m,nd,h1,h2,h=>by show bindC K ((p,w)::P.zip s) m x=_;exact PZ (List.nodup_cons.mp nd).2 (by simpa using h1) (by simpa using h2) h
noncomputable def start (N:cf)(v:List V):St:=v.map some++List.replicate (N.length-v.length) none
noncomputable def yV (C:Za)(P:Program)(w:World)(K:Frag)(M:cn)(B:Heap)(N:cf)(qual:Str)(scope:Scope)(f:Addr)(c:Value)(A:Around)(o:cq)(s:Shared)(H:Hp)(E:XK):Cx where
 prog:=P
 w:=w
 K:=K
 mg:=M
 base:=B
 A:=A.deeper (envOfC qual scope s.heap.objs.size f c)
 N:=N
 s0:=s
 H0:=H
 env:=envOfC qual scope s.heap.objs.size f c
 outer:=o
 stack:=envOfC qual scope s.heap.objs.size f c::o
 ex:=[]
 calm:=true
 fn:=λ_=>true
 pn:=[]
 xe:=λe a=>wpAny (model P w) (A.deeper (envOfC qual scope s.heap.objs.size f c)) (leaving (envOfC qual scope s.heap.objs.size f c) e) (λ_ S=>C o H s E e S) (λb S=>C o H s E b S) a
def OD (h:sc.names.lookup x=some .cell):∃c,(cellsFrom n sc.names []).lookup x=some c:=by exact Option.isSome_iff_exists.mp (cellsFrom_some sc.names n [] (.inl h))
def Dy {C:Za}{K:Frag}{Y:Value}{A:Around}{M:cq}{Z:Shared}{H:Hp}{E:XK}{T:List V}
  (S:yO N ps scope)(hd:A.handled=none)(d:Wr P w K mg base A M s H)(J:T.length=ps.length)(r:Vals T us)
  (x:InCallC s s.heap.objs.size (bindL (envOfC qual scope s.heap.objs.size f Y).kindOf (ps.zip us) λ_=>none) (cellsFrom (s.heap.objs.size+1) scope.names []) (bindC (envOfC qual scope s.heap.objs.size f Y).kindOf (ps.zip us) λ_=>none) Z):
  Inv (yV C P w K mg base N qual scope f Y A M s H E) [] (start N T) H Z:=by
 have D:=by have:=congrArg List.length S.pre;rw[bc]at this;omega
 obtain⟨X,tk,rfl,t⟩:=x.done;have n:∀b:Addr,b∉(yV C P w K mg base N qual scope f Y A M s H E).ex:=λb z=>absurd (show b∈([]:b8) from z) (by simp)
 refine⟨⟨d.mod,S.kind,rfl,rfl,ax _,λy z c X Q=>?_,λy g=>?_,λy c _ h=>?_,λ_=>hd,Around.frames_deeper d.frames,.inr ⟨rfl,rfl⟩,λb z=>absurd z (n b),d.bs,d.bsz,λb _ _=>n b,λb z=>absurd z (n b),d.funs,d.frf⟩,
  rfl,d.bare,Un.kept t,⟨_,x.toInCall.ns,λi y v X Q L=>?_⟩,λy c h=>⟨_,x.cell y c h⟩,d.hok.fresh (ax _),λy c h=>?_,λp l=>absurd (show p∈([]:b9) from l) (by simp),d.hok.kept t,?_⟩
 ·exact name_of_addr x.apart (PySem.mem_of_lookup X) (PySem.mem_of_lookup Q)
 ·have g:=g
  rcases g with g|g
  ·exact OD g
  ·exact absurd rfl (S.nofree _ (PySem.mem_of_lookup g))
 ·exact bJ (x.above y c (PySem.mem_of_lookup h))
 ·have U:i<T.length:=by
   unfold start at Q
   by_cases U:i<T.length
   ·exact U
   ·rw[az (by simpa using U)]at Q
    rw[bF]at Q
    split at Q<;>cases Q
  have I:T[i]? =some v:=by
   unfold start at Q;rw[aq (by simpa using U),ar]at Q
   cases e:T[i]? with|none=>rw[e]at Q;cases Q|some a=>rw[e]at Q;cases Q;rfl
  obtain⟨u,o,B⟩:=r.get I;have l:ps[i]? =some y:=by rw[<- S.pre,List.getElem?_take_of_lt (by lia)];exact X
  have j:ps.Nodup:=by rw[<- S.pre];exact S.nd.sublist (List.take_sublist _ _)
  refine⟨u,B,?_⟩;rcases S.par y (mem_of_getElem? l) with k|k
  ·exact .inl ⟨k,PH j l o k⟩
  ·obtain⟨c,e⟩:=OD k
   refine .inr ⟨.inl k,c,e,?_⟩;have q:=x.cell y c e;rw[PZ j l o (by show scope.names.lookup y≠_;rw[k];decide)]at q
   exact q
 ·exact d.hok.fresh (bJ (x.above y c (PySem.mem_of_lookup h)))
 ·unfold start
  show _=N.length;rw[ai,ah,bN];omega
def Tp {X:Za}{K:Frag}{k:Nat}{o9:Str}{params:Arguments}{D kV doc pm c ct M:Value}{an L:cx}
  {sp:Sp}(lk:K.lookup f=some ⟨M,L,.func (fnOf o9 qual params body scope D kV doc pm an c ct),oF⟩)(C:codeIn K c qual=true)(S:yO N ps scope)
  (len:∀vs H Q E,sp vs H Q E->vs.length=ps.length)
  (g:∀(A:Around)(outer:cq)(s:Shared)(H:Hp)(vs:List V)(Q:VK)(E:XK),jb k (A.deeper (envOfC qual scope s.heap.objs.size f c))->sp vs H Q E->
   ∃t,yL (yV X P w K mg base N qual scope f c A outer s H E) body t/\t { nx:=λ_ h=>Q .non h,rt:=Q } (start N vs) H):
  yu P w K mg base X (k+1) f (fnOf o9 qual params body scope D kV doc pm an c ct) ps sp:=by
 refine⟨len,λA outer s H oA us vs Q E B j Z r p=>?_⟩;have I:=j.mod.kin.keeps λb o e=>(j.bs b o e).1;have d:∀y∈ps.zip us,scope.names.lookup y.1=some .local∨(scope.names.lookup y.1=some .cell/\((cellsFrom (s.heap.objs.size+1) scope.names []).lookup y.1).isSome=true):=λ⟨n,v⟩ T=>by
  rcases S.par n (of_mem_zip T).1 with q|q
  ·exact .inl q
  ·exact .inr ⟨q,cellsFrom_some _ _ _ (.inl q)⟩
 refine codeAny_call_function B.depth (I _ _ lk) rfl S.co S.gen rfl (PySem.W.codeRec_of I C) (Z _ _ _ _ ?_);refine wpAny_newFunctionEnv_cells S.kind d λenv he s1 x=>?_;subst he;refine⟨(j.mod.nolimit.keeps λb o e=>(j.bs b o e).1).keeps x.toInCall.keep,codeAny_func ?_⟩;obtain⟨t,U,Y⟩:=g A outer s H vs Q E (B.deeper _) p;refine wpAny_mono (U [] s1 (start N vs) H _ (Dy S B.hd j (len _ _ _ _ p) r x) Y) (λfl l i=>?_) λe l i=>i;have fin:∀{a:St}{h:Hp}{v:V}{u:Value},Inv (yV X P w K mg base N qual scope f c A outer s H E) [] a h l->RelV v u->Q v h->CE outer P w H s Q u l:=
  λ {a h v u} J z q=>⟨v,h,J.os,J.bare,J.base,J.hok,z,q⟩
 cases fl with
 |ret u=>
  obtain⟨v,a,h,J,z,q⟩:=i;exact fin J z q
 |next=>
  obtain⟨a,h,J,q⟩:=i;exact fin (v:=V.non) J rfl q
 |brk=>
  obtain⟨_,_,_,q⟩:=i;exact False.elim q
 |cont=>
  obtain⟨_,_,_,q⟩:=i;exact False.elim q
section
variable {X:Cx}{es:ck}{t:TA}{id T:String}{r:List V->Hp->VK->Prop}
def WM (r:List V->Hp->VK->Prop)(t:TA):TE:=λa H Q=>t a H λv h=>r v h Q
def Qs (c:jU X (.builtin id) r)(g:Gl X x)(o:X.mg x=none)(v:bootBuiltins x=some (.builtin id))(d:PA X (e::es) t)(n:x ≠ "__name__":=by decide)(b:(x==("__debug__":Str))=false:=by decide)
  (w:starEach (e::es) X.env=(false,eval e X.env)::starEach es X.env:=by rfl)(l:(backTo og (starEach es X.env)).any (·.1)=false:=by rfl):PE X (.Call (.Name x p) (e::es) [] og) (WM r t):=by
 intro P s f H Q I h;refine wpAny_Call_Name_kw (ZV I g o v ?_ n b);exact PyProof.Rows.callWith_builtin1 (zT (d og P s f H _ I h) λu S ⟨j,y,i,a,q⟩=>c P S f y j u Q i a q) w l
def Yv (c:jU X (.type T) r)(g:Gl X x)(o:X.mg x=none)(v:bootBuiltins x=some (.type T))(d:PA X (e::es) t)(n:x ≠ "__name__":=by decide)(b:(x==("__debug__":Str))=false:=by decide)
  (w:starEach (e::es) X.env=(false,eval e X.env)::starEach es X.env:=by rfl)(l:(backTo og (starEach es X.env)).any (·.1)=false:=by rfl):PE X (.Call (.Name x p) (e::es) [] og) (WM r t):=by
 intro P s f H Q I h;refine wpAny_Call_Name_kw (ZV I g o v ?_ n b);exact PyProof.Rows.callWith_type1 (zT (d og P s f H _ I h) λu S ⟨j,y,i,a,q⟩=>c P S f y j u Q i a q) w l
end
end L2
variable {X:L2.Cx}{H:L2.Hp}{oo:List (L2.Key×L2.V)}{vs xs ys:List L2.V}{σ:L2.St}{v:L2.V}
namespace HT
open PySem PyProof.Rows
section
open PySem.SeqAt
open PySem.AutoSeq1 (wpAny_loadPart')
open PySem.MeetsSeq PySem.MeetsSeq2 PySem.MeetsSeq3
end
section
variable {prog:Program}{A:Around}
def zat {t:Addr}{l j:b0}(f:IsTup s.heap t l.toArray)(i:IsTup s.heap b j.toArray)(v:l≠[])
  (x:j=[]->Q (.ref t) s)(u:j≠[]->Q (.ref s.heap.objs.size) { s with heap:=s.heap.push { cls:=.type "tuple",data:=.seq (l++j).toArray } })
  (z:l.length+j.length<=sizeLine):wpAny (model prog w) A (binaryOp .Add (.ref t) (.ref b)) Q E s:=by
 obtain⟨⟨C,q,data,sl⟩,H,g,n,r⟩:=id f;obtain⟨⟨c,d,D,S⟩,h,a,N,p⟩:=id i;subst g r a p;have e:l.toArray++j.toArray=(l++j).toArray:=by simp
 by_cases o:j=[]
 ·exact concat_meets ⟨_,H,rfl⟩ ⟨_,h,rfl⟩ noFill_tuple_add seq_tuple_add slot_tuple_add entry_tuple_add (args_tuple_add_2 _ _)
   (tuple_addW1 t b l.toArray j.toArray n N q d sl S (by simpa using v) (by simp[o])) ⟨H,h,x o⟩
 ·refine concat_meets ⟨_,H,rfl⟩ ⟨_,h,rfl⟩ noFill_tuple_add seq_tuple_add slot_tuple_add entry_tuple_add (args_tuple_add_2 _ _)
   (tuple_addW2 t b l.toArray j.toArray n N q d sl S (by simpa using v) (by simpa using o) (by rw[aD,aD];exact z)) ⟨H,h,?_⟩
  rw[e];exact u o
noncomputable def qI (n d:Nat):Option Int->Nat
 |none=>d|some v=>if v<0 then(v+(n:Int)).toNat else min v.toNat n
def zbv (n d k:Nat):qI n d (some (k:Int))=min k n:=by
 show(if (k:Int)<0 then((k:Int)+(n:Int)).toNat else min (k:Int).toNat n)=min k n;rw[av (by lia),aQ]
def Nb (v:Int)(n d:Nat):(if v<0 then max (v+(n:Int)) 0 else min v (n:Int))=((qI n d (some v):Nat):Int):=by
 show(if v<0 then max (v+(n:Int)) 0 else min v (n:Int))=(((if v<0 then(v+(n:Int)).toNat else min v.toNat n):Nat):Int)
 by_cases h:v<0
 ·simp only[aj h];lia
 ·simp only[av h];lia
def Dc (l h:cm)(n:Nat):Builtin.Slice.sliceAdjust l h 1 (n:Int)=(((qI n 0 l:Nat):Int),((qI n n h:Nat):Int)):=by
 refine Prod.ext ?_ ?_
 ·cases l with|none=>rfl|some v=>exact Nb v n 0
 ·cases h with|none=>rfl|some v=>exact Nb v n n
def EO (i j:Nat):Builtin.Slice.slicePlaces (i:Int) (j:Int) 1=j-i:=by
 unfold Builtin.Slice.slicePlaces
 split<;>lia
def Pf {v:Value}{o:cm}{Q:Option Int->Shared->Prop}(p:IsPart v o)(h:Q o s):wpAny (model prog w) A (Builtin.Slice.slicePartIndex v) Q E s:=by
 cases p with|none=>exact slicePart_none h|int i t=>exact slicePart_int h
def SK {sl:Addr}{l v:Value}{L i:cm}{Q:Int×Int×Nat->Shared->Prop}(b:s.heap.IsSliceOf sl l v .none)(p:IsPart l L)(P:IsPart v i)
  (h:Q (((qI n 0 L:Nat):Int),1,qI n n i-qI n 0 L) s):wpAny (model prog w) A (Builtin.Slice.sliceApplied (.ref sl) (pure (n:Int))) Q E s:=by
 obtain⟨o,H,c,a⟩:=id b;refine cz (cz (wpAny_field H a rfl (cz (wpAny_field H a rfl (cz (wpAny_field H a rfl (cA ?_)))))));refine cz (slicePart_none ?_);refine cz (Pf p (cz (Pf P (cz (cA ?_)))));show wpAny _ _ (match Builtin.Slice.sliceAdjust L i 1 (n:Int) with|(L,i)=>pure (L,(1:Int),Builtin.Slice.slicePlaces L i 1)) _ _ s
 rw[Dc L i n];show wpAny _ _ (pure (((qI n 0 L:Nat):Int),(1:Int),Builtin.Slice.slicePlaces ((qI n 0 L:Nat):Int) ((qI n n i:Nat):Int) 1)) _ _ s;rw[EO];exact cA h
def BH (X:Array Value)(i k:Nat):((List.range k).filterMap λ(m:Nat)=>X[((i:Int)+(m:Int) * 1).toNat]?).toArray=((X.toList.drop i).take k).toArray:=by
 have e:(λ(m:Nat)=>X[((i:Int)+(m:Int) * 1).toNat]?)=λm=>X[i+m]?:=by
  funext m
  have:((i:Int)+(m:Int) * 1).toNat=i+m:=by lia
  rw[this]
 rw[e]
 have:=pick_run X i k
 rw[List.filterMap_map]at this;have E:((λx=>X[x]?) ∘ λx=>i+x)=λm=>X[i+m]?:=rfl;rw[E]at this;rw[this]
def Iv {t sl:Addr}{l v:Value}{L i:cm}(a:IsTup s.heap t items)(d:s.heap.IsSliceOf sl l v .none)(p:IsPart l L)(P:IsPart v i)
  (n:¬(qI items.size 0 L=0/\qI items.size items.size i=items.size))
  (h:Q (.ref s.heap.objs.size) { s with heap:=s.heap.push { cls:=.type "tuple",data:=.seq ((items.toList.drop (qI items.size 0 L)).take (qI items.size items.size i-qI items.size 0 L)).toArray } })
  (z:items.size<=sizeLine):wpAny (model prog w) A (getItem (.ref t) (.ref sl)) Q E s:=by
 have H:=by show((items.toList.drop (qI items.size 0 L)).take (qI items.size items.size i-qI items.size 0 L)).toArray.size<=sizeLine;rw[aD,bc,bQ,aT];lia
 obtain⟨j,b,c,e⟩:=id d;unfold getItem
 try with_reducible refine wpAny_holding ?_
 refine cz (wpAny_sequenceKey a.typeIs (by decide) ?_)
 refine cz (wpAny_callSpecial?_slot a.typeIs PyProof.Rows.slot_tuple_getitem
  (wpAny_call_entry PyProof.Rows.slot_tuple_getitem a.typeIs entry_tuple_getitem ?_ (args_tuple_getitem _ _)))
 show wpAny _ _ (Builtin.Tuple.tupleItemsOf (.ref t) >>= _) _ _ s;refine cz (tupleItemsOf_ a ?_);refine cz (wpAny_typeOf (⟨j,b,c⟩) ?_);refine cz (SK d p P ?_);have o:¬((((qI items.size 0 L:Nat):Int)==0&&(1:Int)==1&&(qI items.size items.size i-qI items.size 0 L)==items.size)=true):=by intro q;rw[ak,ak]at q;have g:=eq_of_beq q.1.1;have f:=eq_of_beq q.2;exact n ⟨by lia,by lia⟩
 show wpAny _ _ (if (((qI items.size 0 L:Nat):Int)==0&&(1:Int)==1&&(qI items.size items.size i-qI items.size 0 L)==items.size)=true then _ else _) _ _ s;rw[av o,BH]
 first
  |exact cz (wpAny_newObj_type (cA ⟨_,rfl,cA h⟩) H)
end
end HT
namespace L2
open PySem PySem.Spec PyProof.Rows
abbrev TO:=St->Hp->(Option Int->Hp->Prop)->Prop
def PO (X:Cx)(e:Option Expr)(t:TO):Prop:=
 ∀(n9:b9)(s:Shared)(σ:St)(H:Hp)(Q:Option Int->Hp->Prop),Inv X n9 σ H s->t σ H Q->
  qS X (evalPart e X.env) (λu S=>∃o h,Inv X n9 σ h S/\IsPart u o/\Q o h) X.xe s
def eb:TO:=λ_ H Q=>Q none H
def ed (t:TE):TO:=λa H Q=>t a H λx h=>∃i,x=.int i/\Q (some i) h
section
variable {te:TE}{lo hi:Option Expr}{tl th:TO}{p2:Pos}
def ee:PO X none eb:=by intro p s a H Q I h;exact cA ⟨none,H,I,.none,h⟩
def eg (h:PE X e te):PO X (some e) (ed te):=by intro p s c H Q I w;refine zT (h p s c H _ I w) λu S ⟨x,d,b,r,a⟩=>?_;obtain⟨i,rfl,q⟩:=a;obtain⟨t,rfl⟩:=r;exact⟨some i,d,b,.int i t,q⟩
def Sg (X:Cx)(r:V->Option Int->Option Int->Hp->VK->Prop):Prop:=
 ∀(n9:b9)(s:Shared)(σ:St)(H:Hp)(x:V)(v l u:Value)(lo hi:cm)(sl:Addr)(Q:VK),Inv X n9 σ H s->RelV x v->s.heap.IsSliceOf sl l u .none->IsPart l lo->IsPart u hi->r x lo hi H Q->
  ∃T id,typeLookup (.type T) "__getitem__"=pure (some (.builtin id))/\s.TypeIs v T/\qS X (getItem v (.ref sl)) (EP X n9 σ Q) X.xe s
def eh (r:V->Option Int->Option Int->Hp->VK->Prop)(T:TE)(t c:TO):TE:=λb H Q=>T b H λx d=>t b d λl a=>c b a λu h=>r x l u h Q
def Ad {r:V->Option Int->Option Int->Hp->VK->Prop}(n:Sg X r)(M:PE X e te)(o:PO X lo tl)(j:PO X hi th):PE X (.Subscript e (.Slice lo hi none p2) og) (eh r te tl th):=by
 intro P s E H Q I h;refine Subscript_ (zT (M P s E H _ I h) λv K ⟨x,N,B,d,i⟩=>?_);refine wpAny_Slice (zT (o P K E N _ B i) λc J ⟨l,D,A,p,g⟩=>zT (j P J E D _ A g) λa S ⟨u,C,z,L,f⟩=>?_);refine cA ?_;obtain⟨T,id,y,t,w⟩:=n P { S with heap:=S.heap.push { cls:=.type "slice",data:=.fields #[c,a,.none] } } E C x v c a l u S.heap.objs.size Q (z.kept λb ob q=>af _ q) d (Heap.IsSliceOf.new ..) p L f
 exact tail_any t y w (by with_unfolding_all rfl)
noncomputable def Y6 (x:List V)(l h:cm):List V:=(x.drop (HT.qI x.length 0 l)).take (HT.qI x.length x.length h-HT.qI x.length 0 l)
def F5 (x:List V)(l h:cm):(Y6 x l h).length<=x.length:=by unfold Y6;rw[bc,bQ];lia
def ej (K:Frag):V->Option Int->Option Int->Hp->VK->Prop:=λx l h H Q=>∃a X,x=.ref a/\qy K H a X/\
 ¬(HT.qI X.length 0 l=0/\HT.qI X.length X.length h=X.length)/\∀p,H p=none->Q (.ref p) (upd H p (.tup (Y6 X l h)))
def el:Sg X (ej X.K):=by
 intro P s o H x v l u L g sl Q I c e p j h;obtain⟨a,f,rfl,d,w,q⟩:=h;cases c;obtain⟨i,r,t,z⟩:=I.tuple d;have n:i.toArray.size=f.length:=by rw[aD];exact r.length.symm
 refine⟨"tuple",_,PyProof.Rows.slot_tuple_getitem.lookup,t.typeIs,?_⟩;refine HT.Iv t e p j (by rw[n];exact w) ?_ (by rw[n];exact z)
 rw[n];refine⟨.ref s.heap.objs.size,_,I.laid (λb ob q=>af _ q) (ax _) ?_,rfl,q _ (I.hok.fresh (ax _))⟩;exact⟨bo (F5 f L g) z,_,(r.drop (HT.qI f.length 0 L)).take (HT.qI f.length f.length g-HT.qI f.length 0 L),ZY.new _ _⟩
def Mx (K:Frag):R2:=λx y H Q=>∃a b X Y,x=.ref a/\y=.ref b/\qy K H a X/\qy K H b Y/\X≠[]/\X.length+Y.length<=sizeLine/\
 (Y=[]->Q (.ref a) H)/\(Y≠[]->∀p,H p=none->Q (.ref p) (upd H p (.tup (X++Y))))
def Vals.nil_iff (r:Vals xs us):us=[]↔xs=[]:=by
 cases r with|nil=>simp|cons _ _=>simp
def en:qM X (binaryOp .Add) (Mx X.K):=by
 intro A s B H x y v u Q I f e h;obtain⟨a,b,C,Y,rfl,rfl,t,o,n,d,j,g⟩:=h;cases f;cases e;obtain⟨l,c,P,_⟩:=I.tuple t;obtain⟨i,r,p,_⟩:=I.tuple o;refine HT.zat P p (λz=>n (c.nil_iff.mp z)) (λz=>⟨.ref a,H,I,rfl,j (r.nil_iff.mp z)⟩) (λz=>?_) (by rw[<- c.length,<- r.length];exact d)
 refine⟨.ref s.heap.objs.size,_,I.laid (λb ob q=>af _ q) (ax _) ?_,rfl,g (λw=>z (r.nil_iff.mpr w)) _ (I.hok.fresh (ax _))⟩;exact⟨by rw[ai];exact d,_,c.append r,ZY.new _ _⟩
end
noncomputable def g9 (n:Nat)(i:Int):Option Nat:=if 0<=i then(if i<n then some i.toNat else none) else if -(n:Int)<=i then some (i+n).toNat else none
def w9 (x:List α)(i:Int):Option α:=(g9 x.length i).bind λj=>x[j]?
def Nk {i:Int}(h:g9 n i=some j):seqIndex? i n=some j/\j<n/\-(n:Int)<=i/\i<n:=by
 unfold g9 at h
 by_cases a:0<=i
 ·rw[aj a]at h
  by_cases H:i<n
  ·rw[aj H]at h
   have e:=aB h;exact⟨by rw[seqIndex_of a H,e],by lia,by lia,H⟩
  ·rw[av H]at h;cases h
 ·rw[av a]at h
  by_cases H:-(n:Int)<=i
  ·rw[aj H]at h
   have e:=aB h;exact⟨by rw[seqIndex_neg (by lia) H,e],by lia,H,by lia⟩
  ·rw[av H]at h;cases h
def Ue {x:List α}{i:Int}{v:α}(h:w9 x i=some v):∃j,seqIndex? i x.length=some j/\x[j]? =some v/\j<x.length/\-(x.length:Int)<=i/\i<x.length:=by
 unfold w9 at h;cases e:g9 x.length i with
 |none=>rw[e]at h;cases h|some j=>
  rw[e]at h;obtain⟨c,b,a,H⟩:=Nk e;exact⟨j,c,h,b,a,H⟩
def GQ {x:List α}{v:α}(h:x[j]? =some v):w9 x (j:Int)=some v:=by
 have H:=(cD.mp h).1;have e:g9 x.length (j:Int)=some j:=by unfold g9;rw[aj (by lia),aj (by lia)];simp
 unfold w9;rw[e];exact h
def Nv (b:Expr):Prop:=∀o i,subscripted b false o i=operate [o,i] (getItem o i)
def QY (X:Cx)(r:R2):Prop:=
 ∀(value slice:Expr)(n9:b9)(s:Shared)(σ:St)(H:Hp)(x y:V)(v u:Value)(Q:VK),Inv X n9 σ H s->RelV x v->RelV y u->r x y H Q->
  subscripted slice false v u=operate [v,u] (getItem v u)->qS X (subscriptTail value slice v u) (EP X n9 σ Q) X.xe s
def WB (X:Cx)(id:String)(r:V->List V->Hp->VK->Prop):Prop:=
 ∀(n9:b9)(s:Shared)(σ:St)(H:Hp)(x:V)(xs:List V)(v:Value)(us:b0)(Q:VK),Inv X n9 σ H s->RelV x v->Vals xs us->r x xs H Q->
  qS X (call (.builtin id) (v::us)) (EP X n9 σ Q) X.xe s
section
variable {a b:Expr}{ta tb:TE}
def QY.or {r c:R2}(h:QY X r)(e:QY X c):QY X (λx y H Q=>r x y H Q∨c x y H Q):=by
 intro f S p s g H x y v u Q I b a q d;rcases q with q|q
 ·exact h f S p s g H x y v u Q I b a q d
 ·exact e f S p s g H x y v u Q I b a q d
def et {r:R2}(f:QY X r)(i:PE X a ta)(g:PE X b tb)(e:Nv b):PE X (.Subscript a b og) (WA r ta tb):=by intro p s n H Q I h;exact Subscript_ (Tu i g I h λv u S x y l j d c q=>f a b p S n l x y v u Q j d c q (e _ _))
def M9 (K:Frag):R2:=λx y H Q=>∃p X i v,x=.ref p/\y=.int i/\jd K H p X/\w9 X i=some v/\Q v H
def Lg (K:Frag):R2:=λx y H Q=>∃p X i v,x=.ref p/\y=.int i/\qy K H p X/\w9 X i=some v/\Q v H
def La:R2:=λx y H Q=>∃z i c,x=.str z/\y=.int i/\z.length<=sizeLine/\w9 z.cps.toList i=some c/\Q (.str ⟨#[c]⟩) H
def eu:QY X (M9 X.K):=by
 intro L S D s N H x y v u Q I g f h d;obtain⟨p,Y,i,z,rfl,rfl,l,T,q⟩:=h;cases g;obtain⟨t,rfl⟩:=f;obtain⟨b,r,P,B⟩:=I.list l;obtain⟨j,J,U,C,A,o⟩:=Ue T;obtain⟨w,e,a⟩:=r.get U;have n:=r.length;have Z:=YQ;have E:EP X D N Q w s:=⟨z,H,I,a,q⟩
 by_cases M:0<=i
 ·have c:=by rw[seqIndex_of M o]at J;exact aB J
  exact item_listR P.isList M (by lia) (by rw[c];simpa using e) E d
 ·have c:(i+(b.toArray.size:Int)).toNat=j:=by
   rw[seqIndex_neg (by lia) A]at J
   rw[aD,<- n];exact aB J
  exact subscriptTail_builtinR P.isList.typeIs slot_list_getitem.lookup
   (wpAny_getItem_list_neg P.isList (by lia) (by rw[aD]<;>lia) (by lia) (by rw[c];simpa using e) ⟨rfl,E⟩) d
def ew:QY X (Lg X.K):=by
 intro A S B s L H x y v u Q I c b h e;obtain⟨p,M,i,z,rfl,rfl,f,C,q⟩:=h;cases c;obtain⟨t,rfl⟩:=b;obtain⟨d,r,P,g⟩:=I.tuple f;obtain⟨j,J,D,o,n,l⟩:=Ue C;obtain⟨w,E,a⟩:=r.get D;have N:=YQ;exact subscriptTail_builtinR P.typeIs slot_tuple_getitem.lookup
  (getItem_tuple P (by lia) (by lia) (by rw[aD,<- r.length];exact J) (by simpa using E) ⟨rfl,(⟨z,H,I,a,q⟩)⟩) e
def ez:QY X La:=by
 intro n S p s B H x y v u Q I a r h b;obtain⟨z,i,c,rfl,rfl,f,w,q⟩:=h;obtain⟨t,rfl⟩:=a;obtain⟨T,rfl⟩:=r;obtain⟨j,o,A,g,e,d⟩:=Ue w;have l:z.cps.toList.length=z.length:=by simp[Str.length]
 rw[l]at o e d;have C:=YQ;exact tail_any (typeIs_str s z t) slot_str_getitem.lookup (getItem_str (by rw[(aF (by lia)),(aF (by lia)),Bool.or_false]) (by rw[o];simpa using A) ⟨.str ⟨#[c]⟩,H,I.tok _,⟨_,rfl⟩,q⟩) b
def Ly (K:Frag):R2:=λx y H Q=>M9 K x y H Q∨Lg K x y H Q∨La x y H Q
def eA:QY X (Ly X.K):=eu.or (ew.or ez)
def EU (i:b0)(n j:Nat)(u:Value):Obj.mapSeq (·.setIfInBounds j u) { cls:=.type "list",data:=.seq i.toArray n }={ cls:=.type "list",data:=.seq (i.set j u).toArray n }:=by simp[Obj.mapSeq]
theorem Inv.lst {P:b9}{a:St}{H:Hp}{s:Shared}{p:Addr}{x:List V}(I:Inv X P a H s)(h:H p=some (.lst x)):
  ∃(i:b0) (n:Nat),Vals x i/\s.heap.get? p=some { cls:=.type "list",data:=.seq i.toArray n }/\x.length<=sizeLine:=by
 obtain⟨z,i,n,r,e⟩:=I.hok p _ h;exact⟨i,n,r,e,z⟩
def Inv.lstUpd {p:Addr}{i:b0}{N:Nat}{f:Obj->Obj}(I:Inv X n9 σ H s)(h:H p=some (.lst xs))
  (o:s.heap.get? p=some { cls:=.type "list",data:=.seq ot.toArray n })(c:f { cls:=.type "list",data:=.seq ot.toArray n }={ cls:=.type "list",data:=.seq i.toArray N })(r:Vals ys i)(z:ys.length<=sizeLine)(t:Nat):
  Inv X n9 σ (upd H p (.lst ys)) { s with heap:=s.heap.update p f,toks:=t }:=by
 have e:(s.heap.update p f).get? p=some { cls:=.type "list",data:=.seq i.toArray N }:=by rw[a4 f o (by rw[c]<;>rfl),c]
 refine I.write (by rw[h];trivial) (.inl rfl) (λb u a q=>(aR _ _ (Ne.symm a)).trans q) ⟨_,e⟩ ?_
 exact⟨z,i,N,r,e⟩
def Ms:V->V->V->Hp->(Hp->Prop)->Prop:=λo i v H Q=>∃p x k j,o=.ref p/\i=.int k/\H p=some (.lst x)/\g9 x.length k=some j/\Q (upd H p (.lst (x.set j v)))
def set_list:Xs X Ms:=by
 intro P s E H o i v A B u Q I ro x w h;obtain⟨p,J,k,j,rfl,rfl,d,y,q⟩:=h;cases ro;obtain⟨t,rfl⟩:=x;obtain⟨a,n,r,b,z⟩:=I.lst d;obtain⟨C,L,f,e⟩:=Nk y;have l:=r.length;have K:=YQ;have g:=
  I.lstUpd d b (EU a n j u) (r.set w j) (by rw[length_set];exact z) s.toks
 by_cases D:0<=k
 ·have c:=by rw[seqIndex_of D e]at C;exact aB C
  exact PySem.W.ki_setAt b D (by lia) (by rw[aD,<- l];exact e) (by rw[c];exact⟨_,g,q⟩)
 ·have c:(k+(a.toArray.size:Int)).toNat=j:=by
   rw[seqIndex_neg (by lia) f]at C
   rw[aD,<- l];exact aB C
  exact PySem.W.ki_setBack b (by lia) (by rw[aD,<- l];exact f) (by lia) (by rw[c];exact⟨_,g,q⟩)
noncomputable def wB:V->Bool
 |.non=>true|.bl _=>true|.int _=>true|.str _=>true|_=>false
noncomputable def wH:V->V->Bool
 |.non,.non=>true|.bl a,.bl b=>a==b|.bl a,.int b=>(if a then 1 else 0)==b|.int a,.bl b=>a==(if b then 1 else 0)|.int a,.int b=>a==b|.str a,.str b=>a==b|_,_=>false
def eB {A:Around}{y x:V}{v:Value}(c:RelV y u)(r:RelV x v)(d:wB y=true)(f:wB x=true):SeqAt.EqAt A s u v (wH y x):=by
 cases y with
 |non=>
  cases c;cases x with|non=>cases r;exact SeqAt.EqAt.same _|bl b=>cases r;exact SeqAt.EqAt.none_bool b|int b=>obtain⟨t,rfl⟩:=r;exact SeqAt.EqAt.none_int b t|str b=>obtain⟨t,rfl⟩:=r;exact SeqAt.EqAt.none_str b t|_=>exact absurd (show false=true from f) aP
 |bl a=>
  cases c;cases x with|non=>cases r;exact SeqAt.EqAt.bool_none a|bl b=>cases r;exact SeqAt.EqAt.bool_bool a b|int b=>obtain⟨t,rfl⟩:=r;exact SeqAt.EqAt.bool_int a b t|str b=>obtain⟨t,rfl⟩:=r;exact SeqAt.EqAt.bool_str a b t|_=>exact absurd (show false=true from f) aP
 |int a=>
  obtain⟨T,rfl⟩:=c;cases x with|non=>cases r;exact SeqAt.EqAt.int_none a T|bl b=>cases r;exact SeqAt.EqAt.int_bool a T b|int b=>obtain⟨t,rfl⟩:=r;exact SeqAt.EqAt.int_int a T b t|str b=>obtain⟨t,rfl⟩:=r;exact SeqAt.EqAt.int_str a T b t|_=>exact absurd (show false=true from f) aP
 |str a=>
  obtain⟨T,rfl⟩:=c;cases x with|non=>cases r;exact SeqAt.EqAt.str_none a T|bl b=>cases r;exact SeqAt.EqAt.str_bool a T b|int b=>obtain⟨t,rfl⟩:=r;exact SeqAt.EqAt.str_int a T b t|str b=>obtain⟨t,rfl⟩:=r;exact SeqAt.EqAt.str_str a T b t|_=>exact absurd (show false=true from f) aP
 |_=>exact absurd (show false=true from d) aP
def kR (x:V)(u:Value):Bool:=match u with|.none=>wH .non x|.bool b=>wH (.bl b) x|.int i _=>wH (.int i) x|.str z _=>wH (.str z) x|_=>false
def Uw {x y:V}(r:RelV y u)(f:wB y=true):kR x u=wH y x:=by
 cases y with|non=>cases r;rfl|bl b=>cases r;rfl|int i=>obtain⟨t,rfl⟩:=r;rfl|str z=>obtain⟨t,rfl⟩:=r;rfl|_=>exact absurd (show false=true from f) aP
theorem KN {x:V}:∀{X:List V}{U:b0},Vals X U->X.all wB=true->U.any (kR x)=X.any λy=>wH y x
 |_,_,.nil,_=>rfl|y::X,u::U,.cons r t,f=>by rw[List.all_cons,ak]at f;rw[any_cons,any_cons,Uw r f.1,KN t f.2]
theorem Yy {A:Around}{x:V}{v:Value}(a:RelV x v)(b:wB x=true):∀{X:List V}{c:b0},Vals X c->X.all wB=true->∀u∈c,SeqAt.EqAt A s u v (kR x u)
 |_,_,.nil,_=>λu h=>by cases h|y::X,u::c,.cons r t,f=>λU h=>by
  rw[List.all_cons,ak]at f;rcases cB.mp h with rfl|h
  ·rw[Uw r f.1];exact eB r a f.1 b
  ·exact Yy a b t f.2 U h
def XX (x:V)(X:List V):Bool:=X.any λy=>wH y x
def Se (K:Frag)(n:Bool):R2:=λx y H Q=>∃p X,y=.ref p/\(jd K H p X∨qy K H p X)/\wB x=true/\X.all wB=true/\Q (.bl (if n then !XX x X else XX x X)) H
def DC:qM X (compareOp .In) (Se X.K false):=by
 intro e s g H x y v u Q I b c h;obtain⟨p,j,rfl,a,f,fs,q⟩:=h;cases c;rcases a with a|a
 ·obtain⟨i,r,P,z⟩:=I.list a
  refine SeqAt.in_listAt (kR x) P.isList (λw d=>Yy b f r fs w (by simpa using d)) ⟨.bl _,H,I,rfl,?_⟩
  rw[show i.toArray.any (kR x)=i.any (kR x) by simp,KN r fs]
  exact q
 ·obtain⟨i,r,P,z⟩:=I.tuple a
  refine SeqAt.in_tupleAt (kR x) P (λw d=>Yy b f r fs w (by simpa using d)) ⟨.bl _,H,I,rfl,?_⟩
  rw[show i.toArray.any (kR x)=i.any (kR x) by simp,KN r fs]
  exact q
def Fi:qM X (compareOp .NotIn) (Se X.K true):=by
 intro e s g H x y v u Q I b c h;obtain⟨p,j,rfl,a,f,fs,q⟩:=h;cases c;rcases a with a|a
 ·obtain⟨i,r,P,z⟩:=I.list a
  refine SeqAt.notIn_listAt (kR x) P.isList (λw d=>Yy b f r fs w (by simpa using d)) ⟨.bl _,H,I,rfl,?_⟩
  rw[show i.toArray.any (kR x)=i.any (kR x) by simp,KN r fs]
  exact q
 ·obtain⟨i,r,P,z⟩:=I.tuple a
  refine SeqAt.notIn_tupleAt (kR x) P (λw d=>Yy b f r fs w (by simpa using d)) ⟨.bl _,H,I,rfl,?_⟩
  rw[show i.toArray.any (kR x)=i.any (kR x) by simp,KN r fs]
  exact q
def FI:jU X (.builtin "len") (λxs H Q=>∃p y,xs=[.ref p]/\(jd X.K H p y∨qy X.K H p y)/\Q (.int y.length) H):=by
 intro c s d H xs U Q I r h;obtain⟨p,y,rfl,a,q⟩:=h;obtain⟨u,rfl,x⟩:=vals1 r;cases x;have e:=YQ;rcases a with a|a
 ·obtain⟨i,b,P,z⟩:=I.list a
  have n:=b.length;exact Calls.call_len_list P.isList (by simp only[aD]<;>lia) ⟨.int y.length,H,I.tok _,⟨s.toks+1,by rw[aD,n]⟩,q⟩
 ·obtain⟨i,b,P,z⟩:=I.tuple a
  have n:=b.length;exact len_tuple P (by simp only[aD]<;>lia) ⟨.int y.length,H,I.tok _,⟨s.toks+1,by rw[aD,n]⟩,q⟩
def HP:jU X (.type "list") (λxs H Q=>∃p y,xs=[.ref p]/\(jd X.K H p y∨qy X.K H p y)/\∀l,H l=none->Q (.ref l) (upd H l (.lst y))):=by
 intro i s C H xs U Q I r h;obtain⟨p,y,rfl,d,q⟩:=h;obtain⟨u,rfl,x⟩:=vals1 r;cases x;have v:∀(ot:b0),Vals y ot->y.length<=sizeLine->∀(h':Heap)(c:Nat),(∀b B,s.heap.get? b=some B->h'.get? b=some B)->
   h'.get? s.heap.objs.size=some { cls:=.type "list",dict:=none,data:=.seq ot.toArray c,slots:=#[] }->EP X i C Q (.ref s.heap.objs.size) { s with heap:=h' }:=λot a z h' c j e=>
  ⟨.ref s.heap.objs.size,_,I.laid j (ax _) (show jk X.prog X.w _ h' _ (.lst y) from ⟨z,ot,c,a,e⟩),rfl,q _ (I.hok.fresh (ax _))⟩
 rcases d with d|d
 ·obtain⟨ot,a,P,z⟩:=I.list d
  have t:=a.length;obtain⟨o,f,g,n,A⟩:=P.isList;exact call_list_seq p (.inl rfl) f g A (λh' c j e=>v ot a z h' c j e) (by simp only[aD]<;>lia)
 ·obtain⟨ot,a,P,z⟩:=I.tuple d
  have t:=a.length;obtain⟨o,f,g,n,A⟩:=P;exact call_list_seq p (.inr rfl) f g A (λh' c j e=>v ot a z h' c j e) (by simp only[aD]<;>lia)
def HK:jU X (.type "tuple") (λxs H Q=>∃p y,xs=[.ref p]/\((jd X.K H p y/\∀l,H l=none->Q (.ref l) (upd H l (.tup y)))∨(qy X.K H p y/\Q (.ref p) H))):=by
 intro j s v H xs U Q I r h;obtain⟨p,y,rfl,h⟩:=h;obtain⟨u,rfl,x⟩:=vals1 r;cases x;rcases h with ⟨c,q⟩|⟨c,q⟩
 ·obtain⟨i,a,P,z⟩:=I.list c
  have n:=a.length;refine call_tuple_list P.isList (λf t=>?_) (by simp only[aD]<;>lia)
  have d:=I.kept (t':=s.toks) t;have g:=
   d.laid (t':=s.toks) (λb o e=>af _ e) (ax _) (show jk X.prog X.w _ _ _ (.tup y) from ⟨z,i,a,ZY.new _ _⟩)
  exact⟨.ref f.objs.size,_,g,rfl,q _ (d.hok.fresh (ax _))⟩
 ·obtain⟨i,a,P,z⟩:=I.tuple c
  exact call_tuple_same P ⟨.ref p,H,I,rfl,q⟩
def X1 (K:Frag)(T:String)(x:V)(H:Hp):Prop:=match x with
 |.str _=>T = "str"
 |.int _=>T = "int"
 |.ref p=>(T = "list" /\ ∃X,jd K H p X)∨(T = "tuple" /\ ∃o,K.lookup p=some o/\o.cls=.type "tuple" /\ o.dict=none)∨
   (T = "dict" /\ ∃s,H p=some (.dK s))∨(T = "set" /\ ∃S n,H p=some (.set S n))
 |_=>False
def eC {T:String}{x:V}{v:Value}(I:Inv X n9 σ H s)(r:RelV x v)(ty:X1 X.K T x H):
  s.TypeIs v T/\∀a,v=.ref a->∃ob,s.heap.get? a=some ob/\ob.dict=none:=by
 cases x with
 |str z=>
  obtain⟨t,rfl⟩:=r;cases (show T = "str" from ty)
  exact⟨typeIs_str s z t,λ_ e=>nomatch e⟩
 |int i=>
  obtain⟨t,rfl⟩:=r;cases (show T = "int" from ty)
  exact⟨typeIs_int s i t,λ_ e=>nomatch e⟩
 |ref p=>
  cases r;rcases ty with ⟨rfl,j,q⟩|⟨rfl,o,h,f,hd⟩|⟨rfl,h⟩|⟨rfl,S,n,h⟩
  ·obtain⟨d,_,P,_⟩:=I.list q
   refine⟨P.isList.typeIs,λa e=>?_⟩;cases e;obtain⟨o,n,e,c,hd,_⟩:=P;exact⟨o,e,hd⟩
  ·refine⟨⟨o,I.kIn p o h,f⟩,λa e=>?_⟩
   cases e;exact⟨o,I.kIn _ o h,hd⟩
  ·have z:∃o,s.heap.get? p=some o/\o.ExactDict:=by obtain⟨b,h⟩:=h;obtain⟨_,_,_,_,o,_,_,e,g,_⟩:=I.hok p _ h;exact⟨o,e,g⟩
   obtain⟨o,e,g⟩:=z;refine⟨⟨o,e,g.1⟩,λa E=>?_⟩;cases E;exact⟨o,e,g.2.1⟩
  ·obtain⟨o,_,_,_,e,g,_⟩:=I.hok p _ h
   refine⟨⟨o,e,g.1⟩,λa E=>?_⟩;cases E;exact⟨o,e,g.2.1⟩
 |_=>exact False.elim ty
def eD (K:Frag)(T:String)(r:V->List V->Hp->VK->Prop)(to:TE)(t:TA):TE:=λa H Q=>to a H λx b=>X1 K T x b/\t a b λX h=>r x X h Q
variable {o:Expr}{es:ck}{to:TE}{t:TA}{o9:Str}{T id:String}{r:V->List V->Hp->VK->Prop}
def Mz (p:PlainAttrs T)(S:Slot T o9 id)(y:typeOf (.builtin id)=pure (.type "method_descriptor"))(J:WB X id r)(j:PE X o to)(l:PA X (e::es) t)
  (b:attributeBase o o9 X.env (eval o X.env)=eval o X.env:=by rfl)
  (w:((backTo oh (starEach (e::es) X.env)).all (λx=>!x.1)&&(backToKw oh (keywordEach [] X.env)).all (λx=>x.1.isSome)
   && decide ((e::es).length+([]:cw).length+(if ([]:cw).isEmpty then 0 else 1)<30))=true:=by rfl)
  (a:(oz.endLine==oh.line)=true:=by rfl)(g:starEach (e::es) X.env=(false,eval e X.env)::starEach es X.env:=by rfl)(n:(backTo oh (starEach es X.env)).any (·.1)=false:=by rfl):
  PE X (.Call (.Attribute o o9 oz) (e::es) [] oh) (eD X.K T r to t):=by
 intro P s B H Q I h;refine wpAny_Call_method_late b w a rfl (zT (j P s B H _ I h) λv E ⟨x,N,i,c,ty,f⟩=>?_);obtain⟨M,L⟩:=eC i c ty;refine⟨T,id,p,S,y,M,L,?_⟩;have A:=l oh P E B N _ i f;rw[g]at A ⊢;refine Calls.callWith_builtin (by show(false || (backTo oh (starEach es X.env)).any (·.1))=false;rw[n]<;>rfl) (Calls.evalArgs_plain ?_)
 exact zT A λU D ⟨C,z,u,d,q⟩=>J P D B z x C v U Q u c d q
end
def Sh (X:Cx)(id:String)(r:V->List V->Hp->VK->Prop):Prop:=
 ∀(n9:b9)(s:Shared)(σ:St)(H:Hp)(x:V)(xs:List V)(v:Value)(us:b0)(Q:VK),Inv X n9 σ H s->RelV x v->Vals xs us->r x xs H Q->
  qS X (call (.builtin id) (v::us)) (EP X n9 σ Q) X.xe s
def Vals.one {x:V}(h:Vals [x] us):∃u,us=[u]/\RelV x u:=by
 cases h with|cons r t=>cases t;exact⟨_,rfl,r⟩
def Vals.two {x y:V}(h:Vals [x,y] us):∃u v,us=[u,v]/\RelV x u/\RelV y v:=by
 cases h with|cons r t=>exact(Vals.one t).elim λv e=>⟨_,v,by rw[e.1],r,e.2⟩
theorem Vals.zero:∀{u:b0},Vals [] u->u=[]
 |_,.nil=>rfl
theorem Vals.eraseIdx:∀{x:List V}{u:b0}(i:Nat),Vals x u->Vals (x.eraseIdx i) (u.eraseIdx i)
 |_,_,_,.nil=>.nil|_,_,0,.cons _ t=>t|_,_,i+1,.cons r t=>.cons r (Vals.eraseIdx i t)
theorem Vals.rep (h:Vals xs us):∀k:Nat,Vals (List.replicate k xs).flatten (List.replicate k us).flatten
 |0=>.nil|k+1=>by exact Vals.append h (Vals.rep h k)
theorem P8:∀(l:List α)(i:Nat),(l.eraseIdx i).length<=l.length
 |[],_=>ax _|_::_,0=>le_succ _|_::r,i+1=>Nat.succ_le_succ (P8 r i)
theorem foldl_rep (i:b0):∀(k:Nat)(a:b0),
  List.foldl (λX x=>X++x) a.toArray (List.replicate k i.toArray)=(a++(List.replicate k i).flatten).toArray
 |0,a=>by simp|k+1,a=>by
  have e:a.toArray++i.toArray=(a++i).toArray:=by simp
  have E:(a++i)++(List.replicate k i).flatten=a++(List.replicate (k+1) i).flatten:=by rw[bK,a3,aX]
  rw[<- E,<- foldl_rep i k (a++i),<- e,bK,List.foldl_cons]
section
variable {l:Addr}
def Inv.lset {i:b0}{f:Array Value->Array Value}(I:Inv X n9 σ H s)(c:H l=some (.lst xs))
  (e:s.heap.get? l=some { cls:=.type "list",data:=.seq ot.toArray n })(d:f ot.toArray=i.toArray)(v:Vals ys i)(h:ys.length<=sizeLine):
  Inv X n9 σ (upd H l (.lst ys)) { s with heap:=s.heap.update l (Obj.mapSeq f),toks:=t' }:=by
 have q:=PySem.IsL.update e f;rw[d]at q;refine I.write (by rw[c];exact trivial) (.inl rfl) (λB u b a=>(aR s.heap (Obj.mapSeq f) (Ne.symm b)).trans a) ⟨_,q⟩ ?_
 exact⟨h,i,_,v,q⟩
def Inv.lnew (I:Inv X n9 σ H s)(v:Vals ys ot)(h:ys.length<=sizeLine):
  Inv X n9 σ (upd H s.heap.objs.size (.lst ys)) { s with heap:=s.heap.push { cls:=.type "list",data:=.seq ot.toArray },toks:=t' }:=
 I.laid (λ_ _ q=>af _ q) (ax _) ⟨h,ot,0,v,ay _ rfl⟩
theorem Inv.fresh (I:Inv X n9 σ H s):H s.heap.objs.size=none:=I.hok.fresh (ax _)
def Inv.lstM (I:Inv X n9 σ H s)(h:H l=some (.lst xs)):xs.length<=sizeLine/\∃(i:b0) (n:Nat),Vals xs i/\xs.length=i.length/\s.heap.get? l=some { cls:=.type "list",data:=.seq i.toArray n }:=by obtain⟨z,i,n,r,e⟩:=I.hok l _ h;exact⟨z,i,n,r,r.length,e⟩
def Ay (h:n<=sizeLine):Builtin.List.listTooLong n=false:=by exact aF (by lia)
end
section
def eE:V->List V->Hp->VK->Prop:=λx v H Q=>∃l X y,x=.ref l/\v=[y]/\H l=some (.lst X)/\X.length<sizeLine/\Q .non (upd H l (.lst (X++[y])))
def P9:Sh X "list.append" eE:=by
 intro p s g H x o v U Q I b c h;obtain⟨l,j,y,rfl,rfl,a,d,q⟩:=h;cases b;obtain⟨u,rfl,ru⟩:=c.one;obtain⟨z,i,n,r,f,e⟩:=I.lstM a;refine call_meets F.slot_list_append ⟨_,e,rfl⟩ F.entry_list_append (F.args_list_append_2 _ _) (PySem.list_append l i.toArray n u (by rw[aD];lia)) ⟨e,?_⟩
 refine⟨.non,_,I.lset a e (by simp) (r.append (.cons ru .nil)) ?_,rfl,q⟩
 rw[ai,aA];lia
def eF:V->List V->Hp->VK->Prop:=λx v H Q=>∃l X i k y,x=.ref l/\v=[.int i]/\H l=some (.lst X)/\-(2 ^ 63)<=i/\i<2 ^ 63/\seqIndex? i X.length=some k/\X[k]? =some y/\Q y (upd H l (.lst (X.eraseIdx k)))
def Bm:Sh X "list.pop" eF:=by
 intro p s E H x J v U Q I d f h;obtain⟨l,A,i,k,y,rfl,rfl,c,D,C,o,g,q⟩:=h;cases d;obtain⟨u,rfl,ru⟩:=f.one;obtain⟨t,rfl⟩:=ru;obtain⟨z,a,n,r,j,e⟩:=I.lstM c;obtain⟨w,B,b⟩:=r.get g;refine call_meets F.slot_list_pop ⟨_,e,rfl⟩ F.entry_list_pop (F.args_list_pop_2 _ _)
  (MeetsSeq.list_pop_at l a.toArray n i t k w (fitsIndex_both D C) (by rw[aD,<- j];exact o) (by rw[<- bE];exact B) (by rw[aD];lia)) ⟨e,?_⟩
 refine⟨y,_,I.lset c e ?_ (r.eraseIdx k) ?_,b,q⟩
 ·show a.toArray.eraseIdxIfInBounds k=(a.eraseIdx k).toArray
  rw[List.eraseIdxIfInBounds_toArray]
 ·have:=P8 A k
  lia
def Lf:R2:=λx y H Q=>∃l b X z,x=.ref l/\y=.ref b/\H l=some (.lst X)/\H b=some (.lst z)/\X.length+z.length<=sizeLine/\∀p,H p=none->Q (.ref p) (upd H p (.lst (X++z)))
def eG:qM X (binaryOp .Add) Lf:=by
 intro w s A H x y v u Q I d c h;obtain⟨l,b,D,C,rfl,rfl,j,B,p,q⟩:=h;cases d;cases c;obtain⟨z,a,n,r,t,e⟩:=I.lstM j;obtain⟨Z,i,N,f,g,o⟩:=I.lstM B;refine PySem.P.add_list e o ?_ (by rw[aD,aD];lia)
 have E:a.toArray++i.toArray=(a++i).toArray:=by simp
 rw[E];exact⟨.ref _,_,I.lnew (r.append f) (by rw[ai];lia),rfl,q _ I.fresh⟩
def Lr:R2:=λx y H Q=>∃l k X,x=.ref l/\y=.int k/\H l=some (.lst X)/\-(2 ^ 63)<=k/\k<2 ^ 63/\X.length * k.toNat<=sizeLine/\
 ∀p,H p=none->Q (.ref p) (upd H p (.lst (List.replicate k.toNat X).flatten))
def len_rep (x:List α)(k:Nat):(List.replicate k x).flatten.length=k * x.length:=by
 induction k with|zero=>simp|succ k i=>rw[bK,a3,ai,i,Nat.succ_mul,add_comm]
def eH:qM X (binaryOp .Mult) Lr:=by
 intro P s L H x y v u Q I o j h;obtain⟨l,k,M,rfl,rfl,B,J,E,f,q⟩:=h;cases o;obtain⟨t,rfl⟩:=j;obtain⟨z,i,n,r,A,e⟩:=I.lstM B;have D:i.toArray.size * k.toNat<=sizeLine:=by rw[aD,<- A];exact f
 have p:¬i.toArray.size * k.toNat > (2 ^ 63-1)/8:=by
  have:(sizeLine:Nat)<=(2 ^ 63-1)/8:=by decide
  lia
 have b:¬(!Builtin.List.listFitsIndex k)=true:=by rw[fitsIndex_both J E];exact aP
 have g:¬Builtin.List.listTooLong (i.toArray.size * k.toNat)=true:=by rw[Ay D];exact aP
 have w:List.foldl (λd c=>d++c) #[] (List.replicate (if i.toArray.isEmpty=true then 0 else k.toNat) i.toArray)=(List.replicate k.toNat i).flatten.toArray:=by
  have K:∀m:Nat,List.foldl (λd c=>d++c) #[] (List.replicate m i.toArray)=(List.replicate m i).flatten.toArray:=λm=>by
   have:=foldl_rep i m []
   exact this
  rw[K];cases i with|nil=>simp|cons a C=>rw[av (by simp)]
 refine wpAny_binaryOp_repeat_ref (by decide) ⟨_,e,rfl⟩ (λS=>typeIs_int S k t) noFill_list_mul F.fills_int_mul F.slot_int_rmul repeat_list F.slot_int_index.lookup
  (call_meets F.slot_int_rmul (typeIs_int s k t) F.entry_int_rmul (F.args_int_rmul_2 _ _) (int___rmul___int_list k t l i.toArray n)
   ⟨e,rfl,⟨_,e,rfl⟩,call_meets F.slot_list_mul ⟨_,e,rfl⟩ F.entry_list_mul (F.args_list_mul_2 _ _) (AutoListH.list___mul___list_int_3 l i.toArray n k t b p g) ⟨e,?_⟩⟩)
 rw[w];exact⟨.ref _,_,I.lnew (r.rep k.toNat) (by rw[len_rep,Nat.mul_comm];exact f),rfl,q _ I.fresh⟩
end
end L2
namespace Att
open PySem PySem.W PySem.Calls PyProof.Rows
def IY {P:Params}:∀(N:bZ)(v:b0),WellAll P h v (N.map WData.int)->IntsAre v N:=by
 intro N
 induction N with
 |nil=>
  intro v w;cases w;exact .nil
 |cons n N i=>
  intro v w;cases w with
  |cons a b=>
   cases a;exact .cons _ _ (i _ b)
def Dw {l:OpenLaw}(p:l.most=some n){P:Params}{A:List WData}{v:b0}
  (H:l.row.toRowW.claim.pre A=true)(e:WellAll P h v A):
  ∃a vs ns,v=[Value.ref a]/\A=[WData.list (ns.map WData.int)]/\h.get? a=some { cls:=.type "list",data:=.seq vs.toArray }/\IntsAre vs ns/\ns.length<=n:=by
 obtain⟨d,r,rfl,t,s⟩:=hasAllW_cons ((pre_splitW H).1);obtain rfl:=hasAllW_nil s;obtain⟨x,rfl,i⟩:=hasW_list t;obtain⟨ns,rfl⟩:=items_int i;have j:ns.length<=n:=by
  have c:=by have c:=(holds_andW ((pre_splitW H).2)).1;rw[p]at c;exact c
  have f:=condW_of c (w_not (w_lt w_lit (w_len_list (w_arg rfl))));rw[ah]at f;refine Nat.le_of_not_lt λq=>?_
  first
   |(rw[aC (by lia)]at f;exact absurd f (by decide))
 cases e with
 |cons g w=>
  cases w;cases g with|list o b=>exact⟨_,_,ns,rfl,rfl,o,IY ns _ b,j⟩
def DH (l:OpenLaw)(a:List WData):l.row.toRowW.claim.post a (.bool true) a=true:=
 postW_of
  (show WShape.has [] (.bool true) .bool=true by first|rfl|decide|simp[WShape.has,WShape.arms,WShape.armsAll])
  (show(WTm.eq .res (.lit (.bool true))).value [] { args:=a,res:=some (.bool true),after:=a }=some (.bool (true==true)) from w_eq_bool (w_res rfl) w_lit) rfl
def F6 {l:OpenLaw}{q:Program}{L:cf}{P:World->Heap->Prop}{d:DefRec}
  (U:l.most=some n)(i:d.params.defaults=[])
  (call:∀(w:World)(S s:Shared)(K M:cn)(b:Addr)(o:Obj)(T Q E:Value)(a:Addr)(I:b0)(N:bZ),
   Ground q L [] XP w S K M s.heap->P w s.heap->
   s.heap.get? b=some o->o.data=.func (docDef d.name d.params d.body d.scope T Q E)->s.heap.CodeRec Q d.name->K d.name=some (.ref b)->
   s.heap.get? a=some { cls:=.type "list",data:=.seq I.toArray }->IntsAre I N->N.length<=n->s.gens=#[]->
   codeAny (model l.prog w) callerA (.call (.ref b) ⟨[.ref a],[]⟩) (λr c=>r=.ok (.ret (.bool true))/\OldK s.heap c.heap/\c.os=s.os/\AllBare c.gens) s):
  WalkO q L XP P l.row.toRowW d [] (λf I=>PySem.call f I):=by
 intro w S s K M G Y b o T Q E B kV u Z j D g x oA vals as h y p e v;obtain rfl:B=.none:=Dflts.none D i;obtain rfl:kV=.none:=Dflts.noKw D;obtain⟨a,I,N,rfl,rfl,H,C,J⟩:=Dw U h e;refine enter_call (codeAny_mono (call w S s K M b o T Q E a I N G Y u (fd_plain Z) j g H C J x) λr c t=>?_);obtain⟨rfl,h2,A,z⟩:=t;exact⟨.inl ⟨.bool true,.bool true,[],rfl,λ_=>rfl,.bool true,DH l _,λ_=>⟨List.Pairwise.nil,λ_ X=>(nomatch X)⟩⟩,h2,A,z⟩
end Att
namespace L2
open PySem PySem.Spec PyProof.Rows
noncomputable abbrev LM {K:Frag}(_:K.In h):Frag:=K
noncomputable def gu (s:Stmt):Arguments:=match s with|.FunctionDef _ a _ _ _ _ _ _ _ _=>a|_=>{ posonlyargs:=[],args:=[],vararg:=none,kwonlyargs:=[],kw_defaults:=[],kwarg:=none,defaults:=[] }
noncomputable def jJ (s:Stmt):cy:=match s with|.FunctionDef _ _ b _ _ _ _ _ _ _=>b|_=>[]
noncomputable def zY (s:Stmt):Scope:=match s with|.FunctionDef _ _ _ _ _ _ S _ _ _=>S|_=>{ kind:=.function,names:=[],isGenerator:=false,isCoroutine:=false }
noncomputable abbrev yY:Za:=λ_ _ _ _ _ _=>False
noncomputable abbrev E0:XK:=λ_ _ _=>False
def eI:Passes yY X E0:=λ_ _ _ _ _ _ _ h=>h.elim
structure kx (K:Frag)(x qual:Str)(st:Stmt)(f:Addr)(fd:FuncData):Prop where
 ex:∃(oc:Value) (od:cx) (kV doc pm:Value) (an:cx) (cdv ct:Value) (oF:Array (cc)),
  fd=fnOf x qual (gu st) (jJ st) (zY st) .none kV doc pm an cdv ct/\K.lookup f=some ⟨oc,od,.func fd,oF⟩/\codeIn K cdv qual=true
 kp:keepIn K (.ref f)=true
section
variable {K:Frag}
def kx.ok {i:Stmt}{k:Nat}{j:Sp}(F:kx K x qual i f fd)(S:yO N ps (zY i))(len:∀v H Q E,j v H Q E->v.length=ps.length)
  (y:∀(c:Value)(A:Around)(g:cq)(s:Shared)(H:Hp)(v:List V)(Q:VK)(E:XK),jb k (A.deeper (envOfC qual (zY i) s.heap.objs.size f c))->j v H Q E->
   ∃t,yL (yV yY P w K mg base N qual (zY i) f c A g s H E).nox (jJ i) t/\t { nx:=λ_ a=>Q .non a,rt:=Q } (start N v) H):yu P w K mg base yY (k+1) f fd ps j:=by
 obtain⟨e,b,kV,D,n,u,c,ct,o,rfl,l,d⟩:=F.ex;refine Tp l d S len λA g s H v Q E r p=>?_;obtain⟨t,h,q⟩:=y c A g s H v Q E r p;exact⟨t,h.nox,q⟩
def kx.binds {s:Stmt}(F:kx K x qual s f fd)
  (h:∀(kV D p:Value)(A:cx)(c ct:Value)(u:b0),u.length=ps.length->bindArgs (fnOf x qual (gu s) (jJ s) (zY s) .none kV D p A c ct) ⟨u,[]⟩=pure (ps.zip u)):Binds K fd ps []:=by
 obtain⟨a,d,kV,D,p,A,c,ct,o,rfl,l,H⟩:=F.ex;exact .all (h kV D p A c ct)
def eJ {s:Stmt}{a:Value}{o A:cx}{kV d p C ct:Value}(l:K.lookup f=some ⟨a,o,.func (fnOf x qual (gu s) (jJ s) (zY s) .none kV d p A C ct),oF⟩)
  (c:codeIn K C qual=true)(k:keepIn K (.ref f)=true):kx K x qual s f (fnOf x qual (gu s) (jJ s) (zY s) .none kV d p A C ct):=⟨⟨a,o,kV,d,p,A,C,ct,oF,rfl,l,c⟩,k⟩
end
def eK {A:Around}{k:Nat}(h:jb k A):A.units+1<cLine:=Nat.lt_of_le_of_lt (Nat.add_le_add_left (by decide:1<=64) _) h.units
section
variable {κ:Type}[DecidableEq κ]
noncomputable def wd (K:List (κ×V))(k:κ):Option V:=(K.find? λv=>decide (v.1=k)).map (·.2)
noncomputable def putK (K:List (κ×V))(k:κ)(v:V):List (κ×V):=
 if (K.any λa=>decide (a.1=k))=true then K.map (λa=>if a.1=k then(a.1,v) else a) else K++[(k,v)]
def VV {p:κ×V}{r:List (κ×V)}{k:κ}(e:p.1=k):wd (p::r) k=some p.2:=by simp[wd,find?_cons,e]
def VU {p:κ×V}{r:List (κ×V)}{k:κ}(e:¬p.1=k):wd (p::r) k=wd r k:=by simp[wd,find?_cons,e]
theorem Oz (k:κ):∀K:List (κ×V),(K.any λv=>decide (v.1=k))=(wd K k).isSome
 |[]=>rfl|p::r=>by
  rw[any_cons]
  by_cases e:p.1=k
  ·simp only[VV e,aC e,Bool.true_or,isSome_some]
  ·rw[VU e,aF e,Bool.false_or];exact Oz k r
def Et (K:List (κ×V))(k:κ)(v:V):(putK K k v).length<=K.length+1:=by
 unfold putK
 split
 ·rw[ah];lia
 ·rw[ai,a7,length_nil];lia
def CJ {K:List (κ×V)}{k:κ}(v:V)(h:wd K k=none):putK K k v=K++[(k,v)]:=by unfold putK;rw[Oz,h];exact av (by decide)
def KV.val {K:List (κ×V)}{v:List (κ×Value)}(r:KV K v)(k:κ):Wo (wd K k) (valueAt v k):=by
 unfold KV at r
 induction r with
 |nil=>exact True.intro|@cons p q ps Q h t i=>
  obtain⟨H,a⟩:=h
  by_cases e:p.1=k
  ·have E:q.1=k:=H.symm.trans e
   have b:valueAt (q::Q) k=some q.2:=by simp[valueAt,find?_cons,E]
   rw[VV e,b];exact a
  ·have E:¬q.1=k:=λz=>e (H.trans z)
   have b:valueAt (q::Q) k=valueAt Q k:=by simp[valueAt,find?_cons,E]
   rw[VU e,b];exact i
theorem KV.any {K:List (κ×V)}{s:List (κ×Value)}(r:KV K s)(k:κ):(K.any λv=>decide (v.1=k))=s.any λv=>decide (v.1=k):=by
 unfold KV at r
 induction r with|nil=>rfl|cons h t i=>rw[any_cons,any_cons,i,h.1]
def KV.repl {s:List (κ×V)}{v:List (κ×Value)}(r:KV s v)(k:κ){y:V}(a:RelV y u):
  KV (s.map λK=>if K.1=k then(K.1,y) else K) (v.map λK=>if K.1=k then(K.1,u) else K):=by
 unfold KV at r ⊢
 induction r with
 |nil=>exact .nil|@cons p q ps Q h t i=>
  rw[a5,a5];refine .cons ?_ i;obtain⟨H,b⟩:=h
  by_cases e:p.1=k
  ·rw[aj e,aj (H.symm.trans e)];exact⟨H,a⟩
  ·rw[av e,av (λz=>e (H.trans z))];exact⟨H,b⟩
def KV.put {K:List (κ×V)}{s:List (κ×Value)}(r:KV K s)(k:κ){y:V}(a:RelV y u):KV (putK K k y) (stored s k u):=by
 unfold putK stored;rw[r.any k]
 by_cases e:(s.any λv=>decide (v.1=k))=true
 ·rw[aj e,aj e];exact r.repl k a
 ·rw[av e,av e];exact Paired.snoc r ⟨rfl,a⟩
theorem KV.length {K:List (κ×V)}{v:List (κ×Value)}(r:KV K v):K.length=v.length:=Paired.length r
end
def Mv {k:Key}(r:RelV (kV k) u):(Zj P w).is k u=true:=by
 cases k with|inl i=>obtain⟨t,e⟩:=(show ∃t,u=Value.int i t from r);subst e;exact Ee P w i t|inr x=>obtain⟨t,e⟩:=(show ∃t,u=Value.str x t from r);subst e;exact F8 P w x t
section
def eM {u:HO}(ok:qY P w H h)(e:Rd H a u):jk P w H h a u:=e.ok ok
def Tc (ok:qY P w H h)(e:Rd H a (.dK oo)):oo.length<=sizeLine/\(a==sysModules)=false/\∃vs,KV oo vs/\h.DictOf (Zj P w) a vs:=
 show jk P w H h a (.dK oo) from eM ok e
def MR (ok:qY P w H h)(e:H a=some (.dK oo)):oo.length<=sizeLine/\(a==sysModules)=false/\∃vs,KV oo vs/\h.DictOf (Zj P w) a vs:=Tc ok (.inl e)
end
def Y7 (H:Hp)(a:Addr)(y:V)(r:Option V):Prop:=
 ∃K k,Rd H a (.dK K)/\y=kV k/\r=wd K k
theorem Y7.k {k:Key}(e:H a=some (.dK oo)):Y7 H a (kV k) (wd oo k):=⟨oo,k,.inl e,rfl,rfl⟩
section
variable {y:V}{o:Option V}{A:Around}
def Inv.big (I:Inv X n9 σ H s):sysModules<s.heap.objs.size:=by have h:mainGlobals<s.heap.objs.size:=(I.mod.glob.keeps I.bk).lt;exact lt_trans (by decide) h
def DT (f:A.units+1<cLine)(I:Inv X n9 σ H s)(g:Y7 H a y (some v))(c:RelV y u)(h:∀b S,Inv X n9 σ H S->RelV v b->Q b S):
  wpAny (model X.prog X.w) A (getItem (.ref a) u) Q E s:=by
 obtain⟨K,k,e,d,l⟩:=g;subst d;obtain⟨z,p,j,i,D⟩:=Tc I.hok e;obtain⟨b,n,r⟩:=Wo.some_of (v:=v) (o:=valueAt j k) (by rw[l];exact i.val k)
 exact wpAny_getItem_of (Mv c) D.mapOf n (h b _ (I.tok _) r)
def eN {ob:HO}(I:Inv X n9 σ H s)(M:WG (H a))(h:Heap.SameBut a s.heap h')(d:∃q,h'.get? a=some q)(new:jk X.prog X.w (upd H a ob) h' a ob):
  Inv X n9 σ (upd H a ob) { s with heap:=h',toks:=t' }:=
 I.write (x:=a) (e:=a) M (.inl rfl) (λb q c z=>(h.2 b c).trans z) d new
def eO {H:Hp}{v:List (Key×Value)}(z:oo.length<=sizeLine)(h:(a==sysModules)=false)(r:KV oo v)(d:h'.DictOf (Zj P w) a v):
  jk P w H h' a (.dK oo):=⟨z,h,v,r,d⟩
end
def TN (i:Expr):Prop:=∀o I,subscripted i false o I=operate [o,I] (getItem o I)
def eQ {p:Program}{A:Around}{v g:Expr}{T id:String}
  (l:typeLookup (.type T) "__getitem__"=pure (some (.builtin id)))(f:TN g)
  (h:wpAny (model p w) A (eval v env) (λo b=>wpAny (model p w) A (eval g env) (λi S=>S.TypeIs o T/\wpAny (model p w) A (getItem o i) Q E S) E b) E s):
  wpAny (model p w) A (eval (.Subscript v g og) env) Q E s:=by
 refine Subscript_ (wpAny_mono h (λo b d=>wpAny_mono d (λi S H=>?_) λ_ _ x=>x) λ_ _ x=>x);obtain⟨e,H⟩:=H;unfold subscriptTail;refine cz ?_;rw[getitemInPython_of_ne e.not_modules];refine cz (wpAny_specialOf e l ?_);have n:wpAny (model p w) A (subscripted g false o i) (λr a=>wpAny (model p w) A (letTemporaryGo v o r >>= λ_=>pure r) Q E a) E S:=by rw[f o i];exact wpAny_operating (wpAny_mono H (λr a c=>cz (wpAny_letTemporaryGo (cA c))) λ_ _ x=>x)
 first
  |exact cA (cz n)
  |exact cz (cA (cz n))
  |exact cz n
def FZ {y:V}{o:Option V}(I:Inv X n9 σ H s)(g:Y7 H a y o):s.TypeIs (.ref a) "dict":=by obtain⟨K,k,e,_,_⟩:=g;obtain⟨_,_,v,_,d⟩:=Tc I.hok e;exact d.typeIs
def eS (t ty:TE):TE:=λb H Q=>t b H λx c=>ty b c λy h=>∃a v,x=.ref a/\Y7 h a y (some v)/\Q v h
section
variable {o i:Expr}{td ty:TE}
def AJ (f:X.A.units+1<cLine)(l:PE X o td)(C:PE X i ty)(j:TN i):PE X (.Subscript o i og) (eS td ty):=by intro P s B H Q I h;refine eQ PySem.F.slot_dict_getitem.lookup j (zT (l P s B H _ I h) λu S ⟨x,D,p,d,e⟩=>zT (C P S B D _ p e) λz K ⟨y,t,b,c,a,v,E,g,q⟩=>?_);subst E;obtain rfl:u=Value.ref a:=d;exact⟨FZ b g,DT f b g c λw J n r=>⟨v,t,n,r,q⟩⟩
end
def BQ (h:Heap)(b:sysModules<h.objs.size):jk P w H (h.push { cls:=.type "dict",data:=.dict #[] }) h.objs.size (.dK []):=
 ⟨bR _,beq_eq_false_iff_ne.mpr (Ne.symm (aM b)),[],.nil,Heap.DictOf.new h⟩
def eT:TE:=λ_ H Q=>∀p,H p=none->Q (.ref p) (upd H p (.dK []))
section
def AF:PE X (.Dict [] [] og) eT:=λp s b H Q I h=>
 wpAny_Dict_empty ⟨.ref s.heap.objs.size,_,I.laid (a:=s.heap.objs.size) (o:=.dK []) (t':=s.toks) (λ_ _ q=>af _ q) (ax _) (BQ s.heap I.big),rfl,h _ (I.hok.fresh (ax _))⟩
end
noncomputable def wy (e:Env):List (Str×NameKind)->List (Str×Addr)->List (Str×Addr)
 |[],acc=>acc|(n,k)::r,acc=>wy e r (if k==.free then(n,(e.cells.lookup n).getD 0)::acc else acc)
def CS (f:Str×NameKind->List (Str×Addr)->Sem (ForInStep (cu)))
  (j:∀n k r,f (n,k) r=if (k==NameKind.free)=true then(do let c <- cellOf env n;pure (ForInStep.yield ((n,c)::r))) else pure (ForInStep.yield r)):
  ∀(N:List (Str×NameKind))(A:cu),(∀y∈N,y.2=.free->∃c,env.cells.lookup y.1=some c)->(forIn N A f:Sem (cu))=pure (wy env N A):=by
 intro N
 induction N with
 |nil=>intro A _;rfl|cons y r i=>
  intro A a;obtain⟨n,k⟩:=y;rw[forIn_cons,j];unfold wy;have h:=i (if k==.free then(n,(env.cells.lookup n).getD 0)::A else A) (λy d=>a y (ao _ d))
  by_cases H:k=.free
  ·subst H
   obtain⟨c,b⟩:=a (n,.free) au rfl;have e:cellOf env n=pure c:=by unfold cellOf;rw[b]
   simp only[e,b,Option.getD_some,bV,if_true]at h ⊢;exact h
  ·have g:(k==NameKind.free)=false:=by simpa using H
   simp only[g,bP,if_false]at h ⊢;exact h
def Pj (h:∀y∈scope.names,y.2=.free->∃c,env.cells.lookup y.1=some c):closureFor scope env=pure (wy env scope.names []):=by
 unfold closureFor;dsimp only;rw[CS _ (λn k r=>rfl) scope.names [] h]
 rfl
theorem Jy {n:Str}:∀(N:List (Str×NameKind))(a:cu),(n,c)∈wy env N a->(n,c)∈a∨((n,NameKind.free)∈N/\c=(env.cells.lookup n).getD 0)
 |[],a,h=>.inl h|(x,k)::r,a,h=>by
  rcases Jy r _ h with h|⟨h1,h2⟩
  ·by_cases H:k=.free
   ·subst H
    rcases cB.mp h with e|h
    ·cases e;exact .inr ⟨au,rfl⟩
    ·exact .inl h
   ·have b:(k==NameKind.free)=false:=by simpa using H
    simp only[b,bP,if_false]at h;exact .inl h
  ·exact .inr ⟨ao _ h1,h2⟩
theorem Gj {n:Str}:∀(N:List (Str×NameKind))(A:cu),((n,NameKind.free)∈N∨(A.lookup n).isSome=true)->((wy env N A).lookup n).isSome=true
 |[],A,h=>by
  rcases h with h|h
  ·cases h
  ·exact h
 |(x,k)::r,A,h=>by
  refine Gj r _ ?_;rcases h with h|h
  ·rcases cB.mp h with e|h
   ·cases e
    simp
   ·exact .inl h
  ·right
   by_cases H:(k==NameKind.free)=true
   ·rw[aj H,lookup_cons]
    cases a:n==x
    ·exact h
    ·rfl
   ·rw[av H];exact h
theorem Vj {n:Str}:∀(N:List (Str×NameKind))(k:Nat)(A:cu),(n,c)∈cellsFrom k N A->(n,c)∈A∨(k<=c/\(n,NameKind.cell)∈N)
 |[],_,_,h=>.inl h|(x,q)::r,k,A,h=>by
  unfold cellsFrom at h
  by_cases a:(q==NameKind.cell)=true
  ·rw[aj a]at h
   have H:=by simpa using a
   rcases Vj r _ _ h with h|⟨h1,h2⟩
   ·rcases cB.mp h with e|h
    ·cases e;subst H;exact .inr ⟨ax _,au⟩
    ·exact .inl h
   ·exact .inr ⟨by lia,ao _ h2⟩
  ·rw[av a]at h
   rcases Vj r _ _ h with h|⟨h1,h2⟩
   ·exact .inl h
   ·exact .inr ⟨h1,ao _ h2⟩
theorem Vi:∀(s:List (Str×NameKind))(k:Nat)(A:cu),(∀n c,(n,c)∈A->c<k)->(∀n N c,(n,c)∈A->(N,c)∈A->n=N)->∀n N c,(n,c)∈cellsFrom k s A->(N,c)∈cellsFrom k s A->n=N
 |[],_,_,_,hi,n,N,c,h,h'=>hi n N c h h'|(x,q)::r,k,A,l,hi,n,N,c,h,h'=>by
  unfold cellsFrom at h h'
  by_cases a:(q==NameKind.cell)=true
  ·rw[aj a]at h h'
   refine Vi r (k+1) ((x,k)::A) (λm d b=>?_) (λm M d b H=>?_) n N c h h'
   ·rcases cB.mp b with e|b
    ·cases e;exact bz _
    ·exact bb (l m d b)
   ·rcases cB.mp b with e|b
    ·rcases cB.mp H with E|H
     ·cases e;cases E;rfl
     ·cases e;exact absurd (l M _ H) (aZ _)
    ·rcases cB.mp H with E|H
     ·cases E;exact absurd (l m _ b) (aZ _)
     ·exact hi m M d b H
  ·rw[av a]at h h'
   exact Vi r k A l hi n N c h h'
theorem Vd {n:Str}:∀(N:List (Str×NameKind))(h:Heap)(a:cu),(n,c)∈cellsFrom h.objs.size N a->(n,c)∈a∨(pushCells h N).IsCell c none
 |[],_,_,q=>.inl q|(x,k)::r,h,a,q=>by
  unfold cellsFrom at q;unfold pushCells
  by_cases H:(k==NameKind.cell)=true
  ·rw[aj H]at q ⊢
   have:=Vd r (h.push { cls:=.type "cell",data:=.cell none }) ((x,h.objs.size)::a) (by rw[bj];exact q)
   rcases this with z|z
   ·rcases cB.mp z with e|z
    ·cases e
     exact .inr ⟨_,pushCells_keeps r _ _ _ (ay _ rfl),rfl⟩
    ·exact .inl z
   ·exact .inr z
  ·rw[av H]at q ⊢
   exact Vd r h a q
def Iu {A:Around}{globals:Addr}{cl:cu}{Q:Env->Shared->Prop}
  (h:Q { scope,locals:=s.heap.objs.size,globals,cells:=cellsFrom (s.heap.objs.size+1) scope.names cl,qual,func:=none,code:=env.code,frame:=env.frame,builtins:=env.builtins }
   { s with heap:=pushCells (s.heap.push { cls:=.type "dict",data:=.dict #[] }) scope.names }):
  wpAny M A (newFunctionEnv scope globals cl [] qual none .none (some env)) Q E s:=by
 simp only[newFunctionEnv,isSome_some,if_true];refine cz (wpAny_alloc ?_);refine cz (wpAny_layCells _ (λn K c=>by cases H:K==NameKind.cell<;>simp[H]) _ _ _ _ ?_)
 rw[show({ s with heap:=s.heap.push { cls:=.type "dict",data:=.dict #[] } }:Shared).heap.objs.size=s.heap.objs.size+1 from bj ..]
 exact cz (cA (cA h))
def jR (X:Cx)(N:cf)(scope:Scope)(s:Shared)(H:Hp)(f:b8)(e:cg):Cx where
 prog:=X.prog
 w:=X.w
 K:=X.K
 mg:=X.mg
 base:=X.base
 A:=X.A
 N:=N
 s0:=s
 H0:=H
 env:={ scope:=relabel scope X.env,locals:=s.heap.objs.size,globals:=X.env.globals,cells:=cellsFrom (s.heap.objs.size+1) scope.names (wy X.env scope.names []),qual:=X.env.qual,func:=none,code:=X.env.code,frame:=X.env.frame,builtins:=X.env.builtins }
 outer:=X.stack
 stack:=X.stack
 ex:=f
 fn:=λx=>scope.names.lookup x==some .local || scope.names.lookup x==some .cell
 calm:=X.calm
 pn:=[]
 xe:=e
structure Zi (X:Cx)(scope:Scope):Prop where
 kind:scope.kind=.function
 nd:(scope.names.map (·.1)).Nodup
 free:∀y∈scope.names,y.2=.free->X.env.kindOf y.1=some .cell∨X.env.kindOf y.1=some .free
theorem Yf {k:α}:∀{l:List (Str×α)},(l.map (·.1)).Nodup->(x,k)∈l->l.lookup x=some k
 |(y,q)::r,nd,h=>by
  rw[a5,List.nodup_cons]at nd;rw[lookup_cons];rcases cB.mp h with e|h
  ·cases e;simp
  ·have n:(x==y)=false:=by
    rw[beq_eq_false_iff_ne];intro e
    apply nd.1
    rw[<- e];exact List.mem_map_of_mem (f:=(·.1)) h
   rw[n];exact Yf nd.2 h
def Vc {k:NameKind}(h:(relabel scope env).names.lookup x=some k):scope.names.lookup x=some k∨(k=.cell/\scope.names.lookup x=some .free/\env.kindOf x=some .cell):=by
 unfold relabel at h;generalize scope.names=names at h ⊢
 induction names with
 |nil=>cases h|cons y r i=>
  obtain⟨n,q⟩:=y;rw[a5]at h;have split:(if (q==NameKind.free&&env.scope.kind==.function&&env.kindOf n==some .cell)=true then(n,NameKind.cell) else(n,q)).1=n:=by split<;>rfl
  rw[lookup_cons]at h ⊢;rw[split]at h;cases a:x==n with
  |false=>rw[a]at h;exact i h|true=>
   rw[a]at h;have e:=aL.mp a;subst e
   by_cases H:(q==NameKind.free&&env.scope.kind==.function&&env.kindOf x==some .cell)=true
   ·rw[aj H]at h
    simp only[ak,aL]at H;cases h
    right
    exact⟨rfl,by rw[H.1.1],H.2⟩
   ·rw[av H]at h
    left
    exact h
section
def Inv.capt (I:Inv X n9 σ H s)(S:Zi X scope)(h:(x,NameKind.free)∈scope.names):∃c,X.env.cells.lookup x=some c:=I.ok.has x (S.free _ h rfl)
def Kv (I:Inv X n9 σ H s)(S:Zi X scope)(h:(x,c)∈cellsFrom (s.heap.objs.size+1) scope.names (wy X.env scope.names [])):
  ((x,NameKind.free)∈scope.names/\X.env.cells.lookup x=some c/\c<s.heap.objs.size)∨((x,NameKind.cell)∈scope.names/\s.heap.objs.size<c/\∀f:Heap,f.objs.size=s.heap.objs.size+1->(pushCells f scope.names).IsCell c none):=by
 rcases Vj _ _ _ h with d|⟨d,h2⟩
 ·left
  rcases Jy _ _ d with z|⟨z,e⟩
  ·cases z
  ·obtain⟨C,a⟩:=I.capt S z
   rw[a]at e;subst e;obtain⟨v,q⟩:=I.cell x c a;exact⟨z,a,q.lt⟩
 ·right
  refine⟨h2,d,λf E=>?_⟩;have b:=h;rw[<- E]at b;rcases Vd _ f _ b with z|z
  ·exfalso
   rcases Jy _ _ z with z|⟨z,e⟩
   ·cases z
   ·obtain⟨C,a⟩:=I.capt S z
    rw[a]at e;subst e;obtain⟨v,q⟩:=I.cell x c a;exact aZ _ (aE (bb q.lt) d)
  ·exact z
def CK {xe:cg}{f:St}(I:Inv X n9 σ H s)(S:Zi X scope)(hf:∀b∈fp,wC X n9 H b)(A:∀b∈fp,b<s.heap.objs.size)(hl:f.length=N.length)
  (hs:∀(j:Nat)(x:Str)(v:V),N[j]? =some x->f[j]? =some (some v)->(x,NameKind.free)∈scope.names/\∃i:Nat,X.N[i]? =some x/\σ[i]? =some (some v)):
  Inv (jR X N scope s H fp xe) [] f H { s with heap:=pushCells (s.heap.push { cls:=.type "dict",data:=.dict #[] }) scope.names }:=by
 have K:∀b o,s.heap.get? b=some o->(pushCells (s.heap.push { cls:=.type "dict",data:=.dict #[] }) scope.names).get? b=some o:=λb o e=>pushCells_keeps _ _ _ _ (af _ e);have l:∀{x:Str}{c:Addr},(jR X N scope s H fp xe).env.cells.lookup x=some c->(x,c)∈cellsFrom (s.heap.objs.size+1) scope.names (wy X.env scope.names []):=λh=>PySem.mem_of_lookup h;have L:∀{x:Str},((jR X N scope s H fp xe).env.kindOf x=some .cell∨(jR X N scope s H fp xe).env.kindOf x=some .free)->∃c,(jR X N scope s H fp xe).env.cells.lookup x=some c:=λ {x} h=>by
  refine Option.isSome_iff_exists.mp (cellsFrom_some _ _ _ ?_);have two:scope.names.lookup x=some .cell∨scope.names.lookup x=some .free:=by
   rcases h with h|h
   ·rcases Vc h with z|⟨_,z,_⟩
    ·exact .inl z
    ·exact .inr z
   ·rcases Vc h with z|⟨z,_⟩
    ·exact .inr z
    ·cases z
  rcases two with z|z
  ·exact .inl z
  ·exact .inr (Gj _ _ (.inl (PySem.mem_of_lookup z)))
 have U:∀b∈fp,∀x c,(jR X N scope s H fp xe).env.cells.lookup x=some c->c≠b:=λb a x c e=>by
  rcases Kv I S (l e) with ⟨_,q,_⟩|⟨_,q,_⟩
  ·exact(hf b a).2.2.2.2.1 x c q
  ·intro z;subst z;exact aZ _ (lt_trans q (A _ a))
 refine⟨⟨I.ok.mod,S.kind,I.ok.glob,I.ok.blt,ax _,λx y c h1 h2=>?_,λx h=>L h,λx c g h=>?_,I.ok.hd,I.ok.frames,.inl rfl,λb a=>⟨?_,U b a⟩,I.bs,bo I.ok.bsz I.sz,λb o e a=>?_,λb a z=>?_,I.stack,I.stkFree⟩,
  rfl,I.bare,Un.kept K,⟨λ_=>none,?_,λj x v h1 h2 T=>?_⟩,λx c e=>?_,I.fresh,λx c e=>?_,λp hp=>?_,I.hok.kept K,hl⟩
 ·refine Vi _ _ _ (λn c h=>?_) (λn n' c h h'=>?_) x y c (l h1) (l h2)
  ·rcases Jy _ _ h with z|⟨z,e⟩
   ·cases z
   ·obtain⟨c',D⟩:=I.capt S z
    rw[D]at e;have M:=e;subst M;obtain⟨v,q⟩:=I.cell n c D;exact bb q.lt
  ·rcases Jy _ _ h with z|⟨z,e⟩
   ·cases z
   ·rcases Jy _ _ h' with Z|⟨Z,M⟩
    ·cases Z
    ·obtain⟨d,hd⟩:=I.capt S z
     obtain⟨d',B⟩:=I.capt S Z;rw[hd]at e;rw[B]at M;have J:=e;have Y:=M;subst J;subst Y;exact I.ok.inj _ _ _ hd B
 ·rcases Kv I S (l h) with ⟨z,_,_⟩|⟨_,z,_⟩
  ·exfalso
   have J:=Yf S.nd z;have t:(scope.names.lookup x==some .local || scope.names.lookup x==some .cell)=true:=g;rw[J]at t;cases t
  ·exact bJ z
 ·exact aM (A b a)
 ·obtain⟨_,_,_,E,_⟩:=hf b a
  rcases E with E|E
  ·exact I.ok.noex b o e E
  ·exact absurd (aE (aG e) (bo I.ok.bsz E)) (aZ _)
 ·obtain⟨_,h2,T,_⟩:=hf b a
  rcases cB.mp (I.stkSub b z) with e|e
  ·exact h2 e
  ·exact T e
 ·exact(Heap.Ns.new s.heap (.type "dict")).keeps (pushCells_keeps _ _)
 ·obtain⟨g,i,J,Y⟩:=hs j x v h1 h2
  obtain⟨m,hn,Q⟩:=I.loc;obtain⟨u,r,lk⟩:=Q i x v J Y (.inr (S.free _ g rfl));refine⟨u,r,.inr ?_⟩;have w:(jR X N scope s H fp xe).env.kindOf x=some .cell∨(jR X N scope s H fp xe).env.kindOf x=some .free:=by
   rcases T with z|z|z
   ·exfalso
    rcases Vc z with Z|⟨Z,_⟩
    ·rw[Yf S.nd g]at Z;cases Z
    ·cases Z
   ·exact .inl z
   ·exact .inr z
  refine⟨w,?_⟩;obtain⟨c,D⟩:=L w;refine⟨c,D,?_⟩;rcases Kv I S (l D) with ⟨_,q,_⟩|⟨q,_,_⟩
  ·rcases lk with ⟨z,_⟩|⟨_,c',C,cell⟩
   ·exfalso
    rcases S.free _ g rfl with k|k<;>(rw[k]at z;cases z)
   ·rw[q]at C;cases C
    exact cell.keeps K
  ·exfalso
   have a2:=Yf S.nd q;rw[(Yf S.nd g)]at a2;cases a2
 ·rcases Kv I S (l e) with ⟨_,q,_⟩|⟨_,_,q⟩
  ·obtain⟨v,z⟩:=I.cell x c q
   exact⟨v,z.keeps K⟩
  ·exact⟨_,q _ (bj ..)⟩
 ·rcases Kv I S (l e) with ⟨_,q,_⟩|⟨_,q,_⟩
  ·exact I.freeC x c q
  ·exact I.hok.fresh (bJ q)
 ·have P:=hp
  cases P
end
abbrev gF:=Addr->St->Hp->(St->Hp->Prop)->Prop
noncomputable def Wy (E:Expr)(s:List Comprehension)(S:Scope)(p:Pos)(d:Nat)(a:Value)(e:Env)(k:Sem Fin):Sem Fin:=
 match s[d+1]? with
 |some g=>do
  let x <- eval g.iter e
  standAt g.iter.pos
  let x <- foldedSetIterable g.iter e x
  let _ <- runOwn (.compStart (.ListComp E s S p) (d+1) (<- holding [x] (pyIter x)) a e) e
  k
 |none=>do
  (do let _ <- call (.builtin "list.append") [a,<- eval E e])
  k
theorem eU {I:Expr}{d:Nat}{t A:Value}(h:om[d]? =some ⟨tg,I,ifs,0⟩)(H:∀g,om[d+1]? =some g->g.is_async=0):
  compTurn (.ListComp o6 om sc og) d t A env=(do
   standAt I.pos
   match <- pyNext t with
   |none=>pure (.done .next)|some v=>
    letOwnedTupleGo tg t v
    assign tg env v
    let mut ok:=true
    for c in ifs do
     if ok then ok <- isTrue c env (eval c env)
    if ok then Wy o6 om sc og d A env (again (.compLoop (.ListComp o6 om sc og) d t A env))
    else again (.compLoop (.ListComp o6 om sc og) d t A env)):=by
 unfold compTurn Wy;dsimp only;rw[h];cases hn:om[d+1]? with
 |none=>rfl|some g=>
  obtain⟨T,i,f,a⟩:=g;have e:=H _ hn;subst e
  rfl
def QJ (X:Cx)(i:ck)(t:TT):Prop:=
 ∀(n9:b9)(s:Shared)(σ:St)(H:Hp)(Q:Bool->Hp->Prop),Inv X n9 σ H s->t σ H Q->
  qS X (forIn i true λc r=>if r=true then do let ok <- isTrue c X.env (eval c X.env);pure (ForInStep.yield ok) else pure (ForInStep.yield r)) (TP X n9 σ Q) X.xe s
def eV:TT:=λ_ H Q=>Q true H
def Al:QJ X [] eV:=λp s a H Q I h=>wpAny_tests_nil ⟨H,I,h⟩
def CB {c:Expr}{t:TT}(h:PT X c t):QJ X [c] t:=λp s a H Q I w=>wpAny_tests_one (h p s a H Q I w)
def gc (X:Cx)(e:Expr)(g:List Comprehension)(c:Scope)(p:Pos)(d:Nat)(t:gF):Prop:=
 ∀(n9:b9)(s:Shared)(σ:St)(H:Hp)(D:Addr)(Q:St->Hp->Prop)(k:Sem Fin)(q:Fin->Shared->Prop)(E:cg),Inv X n9 σ H s->t D σ H Q->
  (∀S a h,Inv X n9 a h S->Q a h->qS X k q E S)->qS X (Wy e g c p d (.ref D) X.env k) q E s
def eW (t:TE):gF:=λD a H Q=>t a H λy h=>∃Y,h D=some (.lst Y)/\Y.length<sizeLine/\Q a (upd h D (.lst (Y++[y])))
def Wc (J:It)(g:TG)(T:TT)(t:gF):gF:=λD e H Q=>∃W:Nat->Nat->St->Hp->Prop,(∃m,W 0 m e H)/\∀i m e H,W i m e H->
 (J.stop i H/\Q e H)∨(J.go i H/\∃N:St->Hp->Prop,(∀c h,N c h->∃M,M<m/\W (i+1) M c h)/\∀x h,J.yld i H x h->g x e h λa f=>T a f λb d=>if b=true then t D a d N else N a d)
def eX (w:TI)(g:TG)(T:TT)(t:gF):gF:=λD a H Q=>w a H λJ h=>Wc J g T t D a h Q
section
variable {oj:Expr}{d:Nat}
def YM (h:∀e s,X.xe e s->False){t:Sem α}{Q:α->Shared->Prop}(H:qS X t Q X.xe s'):qS X t Q E s':=
 wpAny_mono H (λ_ _ z=>z) λe s' z=>(h e s' z).elim
def C6 {t:TE}(x:∀e s,X.xe e s->False)(w:PE X o6 t)(g:om[d+1]? =none):gc X o6 om sc og d (eW t):=by intro p s o H D Q k n E I h b;unfold Wy;rw[g];refine cz (cz (YM x (zT (w p s o H _ I h) λu v ⟨y,A,f,r,Y,c,z,a⟩=>?_)));refine cz (YM x (zT (P9 p v o A (.ref D) [y] (.ref D) [u] (λ_ l=>Q o l) f rfl (.cons r .nil) ⟨D,Y,y,rfl,rfl,c,z,a⟩) λ_ S ⟨_,j,i,_,q⟩=>?_));exact cA (b S o j i q)
def eY {g:TG}{ti:TT}{tm:gF}(Y:∀e s,X.xe e s->False)(Z:X.calm=true)(hg:om[d]? =some ⟨tg,oj,ifs,0⟩)(ha:∀g',om[d+1]? =some g'->g'.is_async=0)(M:PG X tg g)(hi:QJ X ifs ti)(hm:gc X o6 om sc og d tm)
  {Q:St->Hp->Prop}{J:It}{it:Addr}{C:Nat->Heap->Prop}(T:Turn X.prog X.w X.K tg J fp it C)(I:Inv X n9 σ H s)(st:C 0 s.heap)(hf:∀b∈fp,wC X n9 H b)
  (h:Wc J g ti tm D σ H Q){R:Result->Shared->Prop}(hR:∀z a c,Inv X n9 a c z->Q a c->R (.ok .next) z):
  codeAny (model X.prog X.w) X.A (.compLoop (.ListComp o6 om sc og) d (.ref it) (.ref D) X.env) R s:=by
 obtain⟨W,⟨m0,w0⟩,turn⟩:=h;have S:∀{c:Hp},(∀b∈fp,c b=none)->∀b∈fp,wC X n9 c b:=λhn b l=>⟨hn b l,(hf b l).2⟩;refine codeAny_loop rfl (λn z=>∃i a c,Inv X n9 a c z/\C i z.heap/\(∀b∈fp,c b=none)/\W i n a c) (λn s3 hI=>?_) m0 ⟨0,σ,H,I,st,λb l=>(hf b l).1,w0⟩;refine wpAny_noted ?_;rw[eU hg ha];refine cz (wpAny_standAt ?_);obtain⟨i,j,E,I3,Js,B,w3⟩:=hI;rcases turn i n j E w3 with ⟨stop,qn⟩|⟨go,N,hN,step⟩
 ·refine cz (zT (T.done X rfl rfl rfl Z i n9 s3 j E _ I3 (S B) Js stop) λr s4 ⟨L,I4⟩=>?_)
  subst L;exact cA (hR s4 j E I4 qn)
 ·refine cz (zT (T.item X rfl rfl rfl Z i n9 s3 j E _ I3 (S B) Js go) λr s4 ⟨u,L,h4⟩=>?_)
  subst L;refine cz (zT h4 λ_ s5 ⟨x,H5,I5,r5,y5,p,P⟩=>?_);have back:∀{f:St}{q:Hp}{t:Shared},Inv X (n9++K1 fp s5.heap) f q t->N f q->∃m,m<n/\∃i a c,Inv X n9 a c t/\C i t.heap/\(∀b∈fp,c b=none)/\W i m a c:=λ {f q t} v n7=>by obtain⟨m',hm,w7⟩:=hN f q n7;refine⟨m',hm,i+1,f,q,v.unpinned,T.keep _ _ _ p λb l o e=>(v.pin (b,o) (a6 _ (a6 _ (Gk l e)))).1,λb l=>?_,w7⟩;obtain⟨o,e,d⟩:=T.obj _ _ p b l;exact(v.pin (b,o) (a6 _ (a6 _ (Gk l e)))).2.1
  refine cz (YM Y (zT (M _ s5 j H5 x u _ (I5.pinned (S P) (T.obj _ _ p)) r5 (step x H5 y5)) λ_ s6 ⟨y,H6,I6,q6⟩=>?_));refine cz (YM Y (zT (hi _ s6 y H6 _ I6 q6) λok t ⟨q,v,U⟩=>?_));cases ok with
  |false=>exact cA ⟨rfl,back v U⟩|true=>
   exact hm _ t y q D _ _ _ _ v U λs8 σ8 H8 I8 q8=>cA ⟨rfl,back I8 q8⟩
def MZ {g:TG}{r:TT}{q:gF}(x:∀e s,X.xe e s->False)(j:X.calm=true)(c:om[d]? =some ⟨tg,oj,ifs,0⟩)(o:∀f,om[d+1]? =some f->f.is_async=0)(t:PG X tg g)(z:QJ X ifs r)(y:gc X o6 om sc og d q)
  {Q:St->Hp->Prop}{J:It}{v:Addr}{n:Nat->Heap->Prop}(T:Turn X.prog X.w X.K tg J fp v n)(I:Inv X n9 σ H s)(u:n 0 s.heap)(B:∀b∈fp,wC X n9 H b)
  (h:Wc J g r q D σ H Q){R:Result->Shared->Prop}(p:∀S a i,Inv X n9 a i S->Q a i->R (.ok .next) S):
  codeAny (model X.prog X.w) X.A (.compStart (.ListComp o6 om sc og) d (.ref v) (.ref D) X.env) R s:=by
 have L:=eY x j c o t z y T I u B h p;refine codeAny_of_tree ?_;refine wpAny_notedAt ?_;unfold compStart;have l:(clausesOf (.ListComp o6 om sc og))[d]? =some ⟨tg,oj,ifs,0⟩:=c;rw[l];refine cz (wpAny_askSetting (wpAny_ite ?_))
 split
 ·first
   |exact cz (cA (cA (And.intro rfl L)))
 ·first
   |exact cz (wpAny_rule (cz (wpAny_standAt (cz (T.self _ 0 s _ _ u (cA (And.intro rfl L)))))))
def BN {w:TI}{g:TG}{L:TT}{K:gF}(b:∀e s,X.xe e s->False)(o:X.calm=true)(c:om[d+1]? =some ⟨tg,oj,ifs,0⟩)(p:∀f,om[d+2]? =some f->f.is_async=0)(N:PI X tg oj w)(t:PG X tg g)(Y:QJ X ifs L)(U:gc X o6 om sc og (d+1) K)
  (l:∀x,foldedSetIterable oj X.env x=pure x:=by intro _;rfl):gc X o6 om sc og d (eX w g L K):=by
 intro P s M H D Q k B E I h n;unfold Wy;rw[c];refine cz (YM b (zT (N P s M H _ I h) λv s1 h1=>?_));refine cz (wpAny_standAt (cz (wpAny_of_eq (l v) ?_)));refine cz (wpAny_holding (YM b (zT h1 λj s2 Z=>?_)));obtain⟨it,A,z,J,C,e,r,T,g0,f2,q⟩:=Z;subst e;refine cz (wpAny_runOwn (MZ b o c p t Y U T r g0 f2 q λS a y u i=>?_));exact n S a y u i
end
noncomputable def Z8 (n:Nat)(c:cb)(a:St):St:=List.replicate n none++c.map λi=>(a[i]?).join
noncomputable def QF (M N:cf)(scope:Scope)(n:Nat)(c:cb):Bool:=
 N.length==n+c.length&&(List.range c.length).all λk=>match N[n+k]?,M[c.getD k 0]? with|some x,some y=>x==y&&scope.names.any λz=>z.1==x&&z.2==NameKind.free|_,_=>false
def BE {M:cf}{r:Nat}(h:QF M N scope r cap=true):(Z8 r cap σ).length=N.length/\
  ∀(j:Nat)(x:Str)(v:V),N[j]? =some x->(Z8 r cap σ)[j]? =some (some v)->(x,NameKind.free)∈scope.names/\∃i:Nat,M[i]? =some x/\σ[i]? =some (some v):=by
 unfold QF at h;rw[ak,aL]at h;obtain⟨u,t⟩:=h;refine⟨by unfold Z8;simp[u],λj x v p E=>?_⟩
 unfold Z8 at E
 by_cases b:j<r
 ·rw[aq (by simpa using b),bF]at E
  split at E<;>cases E
 ·rw[az (by simpa using b),bN,ar]at E
  cases c:cap[j-r]? with
  |none=>rw[c]at E;cases E|some i=>
   rw[c]at E;have e:(σ[i]?).join=some v:=aB E;have H:=cF.mp t (j-r) (cE.mpr ((cD.mp c).1));have l:r+(j-r)=j:=by lia
   rw[l,p]at H;have n:cap.getD (j-r) 0=i:=by rw[ae,c];rfl
   rw[n]at H;cases hm:M[i]? with
   |none=>rw[hm]at H;cases H|some y=>
    rw[hm]at H;rw[ak,aL]at H;obtain⟨g,f⟩:=H;subst g;obtain⟨z,d,a⟩:=List.any_eq_true.mp f;rw[ak,aL,aL]at a;refine⟨?_,i,hm,?_⟩
    ·obtain⟨q,Z⟩:=z
     obtain⟨B,A⟩:=a;cases B;cases A;exact d
    ·cases s:σ[i]? with
     |none=>rw[s]at e;cases e|some o=>rw[s]at e;cases o with|none=>cases e|some w=>cases e;rfl
noncomputable abbrev yI:Value->Shared->Prop:=λ_ _=>False
def Xk (K:Frag)(w:TI)(g:TG)(T:TT)(t:gF)(n:Nat)(c:cb):TE:=λb H Q=>w b H λJ h=>∀D,h D=none->K.lookup D=none->Wc J g T t D (Z8 n c b) (upd h D (.lst [])) λ_ a=>Q (.ref D) a
section
variable {oj:Expr}{wi:TI}{g:TG}{ti:TT}{tm:gF}{nl:Nat}
def OT (hc:X.calm=true)(S:Zi X sc)(r:QF X.N N sc nl cap=true)(ha:∀g',gs[0]? =some g'->g'.is_async=0)(hw:PI X tg oj wi)
  (Z:∀s H f,Inv X n9 σ H s->(∀b∈f,wC X n9 H b)->PG (jR X N sc s H f yI) tg g/\QJ (jR X N sc s H f yI) ifs ti/\gc (jR X N sc s H f yI) o6 (⟨tg,oj,ifs,0⟩::gs) sc og 0 tm)
  {Q:VK}(I:Inv X n9 σ H s)(h:Xk X.K wi g ti tm nl cap σ H Q)
  (n:∀(D C:Addr)(l:Shared)(L:Hp)(m:cn),Inv X n9 σ L l->Q (.ref D) L->l.heap.Ns C m->L C=none->C≠X.env.locals->X.s0.heap.objs.size<=C->(∀x c,X.env.cells.lookup x=some c->c≠C)->(∀q∈X.pn++n9,q.1≠C)->
   compPost (model X.prog X.w) X.A X.xe use Q' (.ref D) C (.ok .next) l)
  (hs:∀x,foldedSetIterable oj X.env x=pure x:=by intro _;rfl):
  qS X (comprehension (.ListComp o6 (⟨tg,oj,ifs,0⟩::gs) sc og) sc X.env p (newList []) false (eval oj X.env) use) Q' X.xe s:=by
 refine wpAny_comprehension_free rfl hs (Pj (λy U e=>I.ok.has _ (S.free y U e))) S.kind (λy U e=>by obtain⟨y1,y2⟩:=y;subst e;exact Yf S.nd U) ?_
 refine zT (hw n9 s σ H _ I h) λv s1 h1=>zT h1 λitv s2 h2=>?_;obtain⟨it,f,tn,J,H2,e,I2,T,g0,f2,q2⟩:=h2;subst e;refine wpAny_newObj_type ?_;have hKD:X.K.lookup s2.heap.objs.size=none:=by
  cases ek:X.K.lookup s2.heap.objs.size with|none=>rfl|some o=>exact absurd (aG (I2.kIn _ _ ek)) (aZ _)
 have P:=q2 _ I2.fresh hKD;generalize Y:({ s2 with heap:=s2.heap.push { cls:=.type "list",data:=.seq ([]:b0).toArray } }:Shared)=s3
 have d:=Y.symm;have i:Inv X n9 σ (upd H2 s2.heap.objs.size (.lst [])) s3:=by rw[d];exact I2.laid (λb u e=>af _ e) (ax _) ⟨by simp,[],0,.nil,ay _ rfl⟩
 have t:∀b∈f,∃o,s2.heap.get? b=some o:=λb a=>let ⟨o,e,_⟩:=T.obj 0 _ g0 b a;⟨o,e⟩
 have M:s3.heap.objs.size=s2.heap.objs.size+1:=by rw[d];exact bj ..
 have B:∀b∈f,b<s3.heap.objs.size:=λb a=>by obtain⟨o,e⟩:=t b a;rw[M];exact bb (aG e)
 have E:∀b∈f,wC X n9 (upd H2 s2.heap.objs.size (.lst [])) b:=λb a=>by obtain⟨o,e⟩:=t b a;refine⟨?_,(f2 b a).2⟩;rw[qh (aM (aG e))];exact(f2 b a).1
 generalize upd H2 s2.heap.objs.size (.lst [])=H3 at i E P;generalize s2.heap.objs.size=D at P ⊢;refine Iu ?_;obtain⟨cl,cs⟩:=BE r (σ:=σ);have I4:=CK (xe:=yI) i S E B cl cs;obtain⟨hgt,hi,hm⟩:=Z s3 H3 f i E;refine MZ (X:=jR X N sc s3 H3 f yI) (λ_ _ z=>z) hc rfl ha hgt hi hm T I4 (T.keep _ _ _ (T.keep _ _ _ g0 λb a o e=>by rw[d];exact af _ e) λb a o e=>pushCells_keeps _ _ _ _ (af _ e)) (λb a=>?_) P λl σ' L j q'=>?_
 ·obtain⟨g1,g2,g3,g4,g5,g6⟩:=E b a
  refine⟨g1,aM (B b a),λz=>?_,.inl a,(I4.ok.exf b a).2,λp hp=>absurd (show p∈([]:b9) from hp) (by simp)⟩
  rcases cB.mp (i.stkSub b z) with e|e
  ·exact g2 e
  ·exact g3 e
 ·have I5:=i.call' j.os j.base j.hok j.bare λb a=>by obtain⟨g1,g2,g3,g4,g5,g6⟩:=E b a;exact⟨g4,g2,g5,g6⟩
  obtain⟨m,hn,_⟩:=j.loc;refine n D _ l L m I5 q' hn j.free (br i.lt) i.sz (λx c e z=>?_) λq hq z=>?_
  ·obtain⟨v,w⟩:=i.cell x c e
   exact aZ _ (aE w.lt (by rw[z];exact ax _))
  ·exact aZ _ (aE (aG (i.pin q hq).1) (by rw[z];exact ax _))
def eZ (i:X.calm=true)(S:Zi X sc)(p:QF X.N N sc nl cap=true)(l:∀a,gs[0]? =some a->a.is_async=0)(A:PI X tg oj wi)
  (n:∀s H f,PG (jR X N sc s H f yI) tg g/\QJ (jR X N sc s H f yI) ifs ti/\gc (jR X N sc s H f yI) o6 (⟨tg,oj,ifs,0⟩::gs) sc og 0 tm)
  (d:∀x,foldedSetIterable oj X.env x=pure x:=by intro _;rfl):PE X (.ListComp o6 (⟨tg,oj,ifs,0⟩::gs) sc og) (Xk X.K wi g ti tm nl cap):=by
 intro P s L H Q I h;refine OT i S p l A (λs H f _ _=>n s H f) I h (λD C y w m v q B J E u t r=>?_) d;exact⟨m,B,λz c=>⟨.ref D,w,v.turned (λb o j e=>(c.2 b j).trans e) J E (.inr u) t r,rfl,q⟩⟩
def EZ {P:Pos}{c:Pos}(Q:X.N.Nodup)(j:X.N[i]? =some x)(r:X.env.scope.names.lookup x=some .local)
  (w:swapsWith (.ListComp o6 (⟨tg,oj,ifs,0⟩::gs) sc og) (some (.Name x P)) c.line X.env=pure true)
  (J:X.calm=true)(S:Zi X sc)(p:QF X.N N sc nl cap=true)(M:∀u,gs[0]? =some u->u.is_async=0)(hw:PI X tg oj wi)
  (n:∀s H f,PG (jR X N sc s H f yI) tg g/\QJ (jR X N sc s H f yI) ifs ti/\gc (jR X N sc s H f yI) o6 (⟨tg,oj,ifs,0⟩::gs) sc og 0 tm)
  (B:∀x,foldedSetIterable oj X.env x=pure x:=by intro _;rfl):PS X (.Assign [.Name x P] (.ListComp o6 (⟨tg,oj,ifs,0⟩::gs) sc og) c) (XA (Xk X.K wi g ti tm nl cap) (Xi i)):=by
 intro n9 s σ H D I h;rw[exec_Assign_Name_used _ _ _ _ w];refine cz (wpAny_standAt (cz ?_));refine cz (wpAny_mono (OT J S p M hw (λs H f _ _=>n s H f) I h (λD' C A H' m I' q hn h1 h2 U t T=>?_) B) (λ_ A E=>cA (cA E)) λ_ _ e=>e);refine wpAny_assign_Name (PU I' Q j (.inl r) (v:=.ref D') rfl (λs2 Z ⟨a,y,Y⟩=>?_) (.inr r));have l:C≠a:=by
  rcases Y with e|e
  ·rw[e];exact h2
  ·exactλz=>t x a e z.symm
 refine⟨m,hn.sameBut y l,λh' d=>⟨_,H',Z.turned (λb o L e=>(d.2 b L).trans e) h1 h2 (.inr U) t T,q⟩⟩
end
end L2
namespace Mi
open PySem PySem.Spec PyProof.Rows L2
abbrev ku:Type:=PySem.Obj->PySem.Addr->PySem.Obj->List L2.V->Prop
abbrev qR (e:PySem.Expr)(E:List PySem.Expr)(X:L2.Cx):Prop:=PySem.starEach (e::E) X.env=(false,PySem.eval e X.env)::PySem.starEach E X.env
abbrev yy (x:PySem.Str):Prop:=(x==("__debug__" : PySem.Str))=false
abbrev QR (X:L2.Cx)(x:PySem.Str):Prop:=X.fn x=true∨X.env.scope.names.lookup x=some .local
abbrev kS (p:PySem.Pos)(e:List PySem.Expr)(X:L2.Cx):Prop:=(PySem.backTo p (PySem.starEach e X.env)).any (·.1)=false
inductive W where
 |non|bl (b:Bool)|int (i:Int)|str (x:Str)|tup (xs:List W)|ref (n:Nat)
 |clo (k:Nat) (xs:List W) (P:ku)
 |xc (x:Str)
inductive O where
 |lst (xs:List W)|ro (xs:List W)|dct (oo:List (Key×W))
 |tab (q:Str) (P:Addr)
noncomputable def O.mut:O->Bool
 |.ro _=>false|_=>true
noncomputable abbrev Hx:=List O
noncomputable abbrev En:=List (Option W)
inductive R (α:Type) where
 |ok (a:α) (A:Hx)|exc (x:Str) (A:Hx)|bad
noncomputable def R.bind {b:Type}(r:R α)(f:α->Hx->R b):R b:=match r with|.ok a A=>f a A|.exc x A=>.exc x A|.bad=>.bad
def R.post (r:R α)(P:α->Hx->Prop)(E:Str->Hx->Prop):Prop:=match r with|.ok a A=>P a A|.exc x A=>E x A|.bad=>False
noncomputable def R.nox (r:R α):R α:=match r with|.ok a A=>.ok a A|.exc _ _=>.bad|.bad=>.bad
section
variable {β:Type}{r:R α}{f:α->Hx->R β}{P Q:α->Hx->Prop}{P':β->Hx->Prop}{E F:Str->Hx->Prop}
def zG {a:α}{A:Hx}:(R.ok a A).bind f=f a A:=rfl
def GC {A:Hx}:(R.exc x A:R α).bind f=.exc x A:=rfl
def zW:(r.bind f).post P' E↔r.post (λa A=>(f a A).post P' E) E:=by cases r<;>exact Iff.rfl
def qx (h:r.post P E)(H:∀a A,P a A->Q a A)(b:∀x A,E x A->F x A):r.post Q F:=by
 cases r with|ok a A=>exact H _ _ h|exc x A=>exact b _ _ h|bad=>exact h
end
abbrev Ev:=En->Hx->R W
inductive zfA (K:Frag)(H:Hp)(R:List V->Prop)(v:V):Prop
 |mk (a:Addr) (vs:List V) (e:v=.ref a) (h:qy K H a vs) (r:R vs)
inductive zfw (H:Hp)(P:ku)(R:List V->Prop)(v:V):Prop
 |mk (a:Addr) (ob:Obj) (u:HO) (c:Addr) (oc:Obj) (uc:HO) (vs:List V) (e:v=.ref a) (h1:H a=some (.frz ob u)) (h2:H c=some (.frz oc uc)) (p:P ob c oc vs) (r:R vs)
inductive zft (R:V->Prop)(Rs:List V->Prop)(vs:List V):Prop
 |mk (v:V) (r:List V) (e:vs=v::r) (h:R v) (t:Rs r)
mutual
def RV (K:Frag)(c:b8)(H:Hp):W->V->Prop
 |.non,v=>v=.non|.bl b,v=>v=.bl b|.int i,v=>v=.int i|.str x,v=>v=.str x|.tup w,v=>zfA K H (zB K c H w) v|.ref n,v=>∃a,v=.ref a/\c[n]? =some a|.clo _ w P,v=>zfw H P (zB K c H w) v|.xc x,v=>∃a o u C,v=.ref a/\H a=some (.frz o u)/\o.cls=.ref C/\nsIn K mainGlobals x=some (some (.ref C))
def zB (K:Frag)(φ:b8)(H:Hp):List W->List V->Prop
 |[],vs=>vs=[]|w::ws,vs=>zft (RV K φ H w) (zB K φ H ws) vs
end
structure Le (K:Frag)(φ:b8)(H:Hp)(ox:b8)(H':Hp):Prop where
 ex:∀(n:Nat)(a:Addr),φ[n]? =some a->ox[n]? =some a
 tp:∀a vs,qy K H a vs->qy K H' a vs
 fr:∀a o,H a=some o->(∀n:Nat,φ[n]?≠some a)->H' a=some o
 nw:∀(n:Nat)(a:Addr),ox[n]? =some a->φ[n]? =some a∨H a=none
 st:∀a,H' a=none->H a=none
 fz:∀a o u,H a=some (.frz o u)->H' a=some (.frz o u)
def Le.refl {K φ H}:Le K φ H φ H:=⟨λ_ _ h=>h,λ_ _ h=>h,λ_ _ h _=>h,λ_ _ h=>.inl h,λ_ h=>h,λ_ _ _ h=>h⟩
def Le.trans {K φ H o5 H1 φ2 H2}(a:Le K φ H o5 H1)(b:Le K o5 H1 φ2 H2):Le K φ H φ2 H2 where
 ex:=λn x h=>b.ex n x (a.ex n x h)
 tp:=λn x h=>b.tp n x (a.tp n x h)
 fr:=λc o h n=>b.fr c o (a.fr c o h n) λk e=>by
  rcases a.nw k c e with e|e
  ·exact n k e
  ·rw[h]at e;cases e
 nw:=λn c e=>by
  rcases b.nw n c e with e|e
  ·exact a.nw n c e
  ·exact .inr (a.st c e)
 st:=λc e=>a.st c (b.st c e)
 fz:=λc o u h=>b.fz c o u (a.fz c o u h)
def Le.off {K φ H ox H'}(l:Le K φ H ox H'){o:HO}(h:H D=some o)(n:∀k:Nat,φ[k]?≠some D):H' D=some o/\∀k:Nat,ox[k]?≠some D:=
 ⟨l.fr D o h n,λk e=>by
  rcases l.nw k D e with e|e
  ·exact n k e
  ·rw[h]at e;cases e⟩
section
variable {K:Frag}{ox:b8}{H':Hp}
structure QW (K:Frag)(φ:b8)(H:Hp)(ox:b8)(H':Hp):Prop where
 ex:∀(n:Nat)(a:Addr),φ[n]? =some a->ox[n]? =some a
 tp:∀a vs,qy K H a vs->qy K H' a vs
 fz:∀a o u,H a=some (.frz o u)->H' a=some (.frz o u)
mutual
theorem RV.monoW (l:QW K φ H ox H'):∀{w:W}{v:V},RV K φ H w v->RV K ox H' w v
 |.non,_,h=>h|.bl _,_,h=>h|.int _,_,h=>h|.str _,_,h=>h|.tup j,_,⟨a,s,e,t,r⟩=>⟨a,s,e,l.tp _ _ t,zB.monoW l r⟩|.ref n,_,⟨a,e,f⟩=>⟨a,e,l.ex _ _ f⟩|.clo _ j P,_,⟨a,ob,u,c,b,U,s,e,i,g,d,r⟩=>⟨a,ob,u,c,b,U,s,e,l.fz _ _ _ i,l.fz _ _ _ g,d,zB.monoW l r⟩|.xc x,_,⟨a,o,u,C,e,i,g⟩=>⟨a,o,u,C,e,l.fz _ _ _ i,g⟩
theorem zB.monoW (l:QW K φ H ox H'):∀{s:List W}{a:List V},zB K φ H s a->zB K ox H' s a
 |[],_,h=>h|w::s,_,⟨v,r,e,h,t⟩=>⟨v,r,e,RV.monoW l h,zB.monoW l t⟩
end
def RV.mono {w:W}(h:RV K φ H w v)(l:Le K φ H ox H'):RV K ox H' w v:=RV.monoW ⟨l.ex,l.tp,l.fz⟩ h
def zB.mono {w:List W}{v:List V}(h:zB K φ H w v)(l:Le K φ H ox H'):zB K ox H' w v:=zB.monoW ⟨l.ex,l.tp,l.fz⟩ h
structure kd (K:Frag)(D:Addr)(φ:b8)(H:Hp)(ox:b8)(H':Hp):Prop where
 ex:∀(n:Nat)(a:Addr),φ[n]? =some a->ox[n]? =some a
 tp:∀a vs,qy K H a vs->qy K H' a vs
 fr:∀a o,a≠D->H a=some o->(∀n:Nat,φ[n]?≠some a)->H' a=some o
 nw:∀(n:Nat)(a:Addr),ox[n]? =some a->φ[n]? =some a∨H a=none
 st:∀a,H' a=none->H a=none
 fz:∀a o u,H a=some (.frz o u)->H' a=some (.frz o u)
def kd.refl {D}:kd K D φ H φ H:=⟨λ_ _ h=>h,λ_ _ h=>h,λ_ _ _ h _=>h,λ_ _ h=>.inl h,λ_ h=>h,λ_ _ _ h=>h⟩
def Le.toD {D}(l:Le K φ H ox H'):kd K D φ H ox H':=⟨l.ex,l.tp,λa o _ h n=>l.fr a o h n,l.nw,l.st,l.fz⟩
def kd.trans {D o5 H1 φ2 H2}(a:kd K D φ H o5 H1)(b:kd K D o5 H1 φ2 H2):kd K D φ H φ2 H2 where
 ex:=λn x h=>b.ex n x (a.ex n x h)
 tp:=λn x h=>b.tp n x (a.tp n x h)
 fr:=λc o N h n=>b.fr c o N (a.fr c o N h n) λk e=>by
  rcases a.nw k c e with e|e
  ·exact n k e
  ·rw[h]at e;cases e
 nw:=λn c e=>by
  rcases b.nw n c e with e|e
  ·exact a.nw n c e
  ·exact .inr (a.st c e)
 st:=λc e=>a.st c (b.st c e)
 fz:=λc o u h=>b.fz c o u (a.fz c o u h)
def RV.monoD {D}{w:W}(h:RV K φ H w v)(l:kd K D φ H ox H'):RV K ox H' w v:=RV.monoW ⟨l.ex,l.tp,l.fz⟩ h
def zB.monoD {D}{w:List W}{v:List V}(h:zB K φ H w v)(l:kd K D φ H ox H'):zB K ox H' w v:=zB.monoW ⟨l.ex,l.tp,l.fz⟩ h
theorem zB.length:∀{s:List W}{a:List V},zB K φ H s a->s.length=a.length
 |[],_,h=>by cases h;rfl|w::s,_,⟨v,r,e,_,t⟩=>by subst e;simp[zB.length t]
theorem zB.get:∀{s:List W}{a:List V}{i:Nat}{w:W},zB K φ H s a->s[i]? =some w->∃v,a[i]? =some v/\RV K φ H w v
 |w::s,_,0,_,⟨v,r,e,h,t⟩,q=>by subst e;simp at q;subst q;exact⟨v,by simp,h⟩|w::s,_,i+1,x,⟨v,r,e,h,t⟩,q=>by
  subst e;obtain⟨y,c,b⟩:=zB.get t (by simpa using q)
  exact⟨y,by simpa using c,b⟩
theorem zB.append:∀{s u:List W}{a x:List V},zB K φ H s a->zB K φ H u x->zB K φ H (s++u) (a++x)
 |[],_,_,_,h,t=>by cases h;exact t|w::s,_,_,_,⟨v,r,e,h,t⟩,T=>by subst e;exact⟨v,r++_,rfl,h,zB.append t T⟩
def zB.one {w:W}(h:RV K φ H w v):zB K φ H [w] [v]:=⟨v,[],rfl,h,rfl⟩
def zB.nil:zB K φ H [] []:=rfl
def zB.cons {w:W}{v:V}{s:List W}{vs:List V}(h:RV K φ H w v)(t:zB K φ H s vs):zB K φ H (w::s) (v::vs):=⟨v,vs,rfl,h,t⟩
theorem zB.set {w:W}(q:RV K φ H w v):∀{s:List W}{b:List V}(i:Nat),zB K φ H s b->zB K φ H (s.set i w) (b.set i v)
 |[],_,_,h=>by cases h;exact rfl|_::_,_,0,⟨a,r,e,h,t⟩=>by subst e;exact⟨v,r,rfl,q,t⟩|_::_,_,i+1,⟨a,r,e,h,t⟩=>by subst e;exact⟨a,_,rfl,h,zB.set q i t⟩
theorem zB.drop:∀{w:List W}{s:List V}(n:Nat),zB K φ H w s->zB K φ H (w.drop n) (s.drop n)
 |[],_,n,h=>by cases h;rw[List.drop_nil,List.drop_nil];exact zB.nil|_::_,_,0,h=>by simpa using h|_::_,_,n+1,⟨v,r,e,h,t⟩=>by subst e;simpa using zB.drop n t
theorem zB.take:∀{w:List W}{s:List V}(n:Nat),zB K φ H w s->zB K φ H (w.take n) (s.take n)
 |[],_,n,h=>by cases h;rw[List.take_nil,List.take_nil];exact zB.nil|_::_,_,0,h=>by rw[take_zero,take_zero];exact zB.nil|_::_,_,n+1,⟨v,r,e,h,t⟩=>by subst e;exact⟨v,_,rfl,h,zB.take n t⟩
theorem zB.erase:∀{w:List W}{s:List V}(n:Nat),zB K φ H w s->zB K φ H (w.eraseIdx n) (s.eraseIdx n)
 |[],_,n,h=>by cases h;rw[List.eraseIdx_nil,List.eraseIdx_nil];exact zB.nil|_::_,_,0,⟨v,r,e,h,t⟩=>by subst e;simpa using t|_::_,_,n+1,⟨v,r,e,h,t⟩=>by subst e;exact⟨v,_,rfl,h,zB.erase n t⟩
theorem zB.ints:∀{ns:bZ}{vs:List V},zB K φ H (ns.map W.int) vs↔vs=ns.map V.int
 |[],vs=>Iff.rfl|n::ns,vs=>by
  constructor
  ·rintro⟨v,r,e,h,t⟩
   rw[e,(show v=V.int n from h),zB.ints.mp t];rfl
  ·intro e
   exact⟨V.int n,ns.map V.int,e,rfl,zB.ints.mpr rfl⟩
def Kb (K:Frag)(H:Hp)(a:Addr)(x:List V):Prop:=
 (∃ob,H a=some (.frz ob (.lst x)))∨
  ∃(o:Obj) (ot:Array Value) (n:Nat),K.lookup a=some o/\o.cls=.type "list" /\ o.dict=none/\o.data=.seq ot n/\ot.size<=sizeLine/\Vals x ot.toList
def Kb.sq (h:Kb K H a xs):jd K H a xs:=by
 rcases h with h|h
 ·exact .inl (.inr h)
 ·exact .inr h
inductive TabAt (H:Hp)(q:Str)(cv:Value):Prop
 |mk (c:Addr) (oc:Obj) (u:HO) (vs:Array Value) (t:Tok) (e:cv=.ref c) (h:H c=some (.frz oc u)) (d:oc.data=.fields vs/\vs[1]? =some (.str q t))
def Ws (H:Hp)(q:Str)(P:Array Value):Prop:=TriplesOk P.toList/\∀p c,codeAmong p P.toList=some c->TabAt H q c
def Ws.mono {q:Str}{P:Array Value}(h:Ws H q P)(l:∀a o u,H a=some (.frz o u)->H' a=some (.frz o u)):Ws H' q P:=
 ⟨h.1,λp C e=>by obtain⟨c,b,u,v,t,g,f,d⟩:=h.2 p C e;exact⟨c,b,u,v,t,g,l _ _ _ f,d⟩⟩
def OR (K:Frag)(b:b8)(H:Hp)(a:Addr):O->Prop
 |.lst w=>∃v,H a=some (.lst v)/\zB K b H w v|.ro w=>∃v,Kb K H a v/\zB K b H w v|.dct s=>∃u,H a=some (.dK u)/\u.map (·.1)=s.map (·.1)/\zB K b H (s.map (·.2)) (u.map (·.2))|.tab q P=>a=P/\∃p,H a=some (.tbl p)/\Ws H q p
structure zJ (K:Frag)(φ:b8)(A:Hx)(H:Hp):Prop where
 len:φ.length=A.length
 inj:∀(i j:Nat)(a:Addr)(o o':O),φ[i]? =some a->φ[j]? =some a->A[i]? =some o->A[j]? =some o'->o.mut=true->o'.mut=true->i=j
 ob:∀(n:Nat)(o:O),A[n]? =some o->∃a,φ[n]? =some a/\OR K φ H a o
variable {A:Hx}
def OR.there {o:O}(h:OR K φ H a o)(m:o.mut=true):∃u,H a=some u/\(∀xs,u≠.tup xs)/\(∀ob v,u≠.frz ob v):=by
 cases o with|lst w=>obtain⟨b,e,_⟩:=h;exact⟨_,e,λ_ z=>(by cases z),λ_ _ z=>(by cases z)⟩|ro w=>cases m|dct s=>obtain⟨b,e,_⟩:=h;exact⟨_,e,λ_ z=>(by cases z),λ_ _ z=>(by cases z)⟩|tab q P=>obtain⟨_,b,e,_⟩:=h;exact⟨_,e,λ_ z=>(by cases z),λ_ _ z=>(by cases z)⟩
def GF {o:HO}(h:qy K H a vs)(n:∀xs,H b≠some (.tup xs))(N:∀ob u,H b≠some (.frz ob u)):qy K (upd H b o) a vs:=by
 rcases h with (h|⟨ob,h⟩)|h
 ·exact .inl (.inl (by rw[qh];exact h;intro e;subst e;exact n _ h))
 ·exact .inl (.inr ⟨ob,by rw[qh];exact h;intro e;subst e;exact N _ _ h⟩)
 ·exact .inr h
theorem Le.upd {o:HO}{k:Nat}(c:φ[k]? =some b)(n:∀xs,H b≠some (.tup xs))(N:∀ob u,H b≠some (.frz ob u)):Le K φ H φ (upd H b o) where
 ex:=λ_ _ h=>h
 tp:=λ_ _ h=>GF h n N
 fr:=λa u h z=>by rw[qh];exact h;intro e;subst e;exact z k c
 nw:=λ_ _ h=>.inl h
 st:=λa h=>by
  by_cases e:a=b
  ·subst e;rw[jD]at h;cases h
  ·rw[qh e]at h;exact h
 fz:=λa ob u h=>by rw[qh];exact h;intro e;subst e;exact N _ _ h
def Le.new {p:Addr}{o:HO}(b:H p=none):Le K φ H φ (L2.upd H p o) where
 ex:=λ_ _ h=>h
 tp:=λ_ _ h=>GF h (λx z=>by rw[b]at z;cases z) (λ_ _ z=>by rw[b]at z;cases z)
 fr:=λa u h z=>by rw[qh];exact h;intro e;subst e;rw[b]at h;cases h
 nw:=λ_ _ h=>.inl h
 st:=λa h=>by
  by_cases e:a=p
  ·subst e;rw[jD]at h;cases h
  ·rw[qh e]at h;exact h
 fz:=λa ob u h=>by rw[qh];exact h;intro e;subst e;rw[b]at h;cases h
def Le.alloc {p:Addr}{o:HO}(b:H p=none):Le K φ H (φ++[p]) (L2.upd H p o) where
 ex:=λn a h=>by
  have:=(cD.mp h).1
  rw[aq this];exact h
 tp:=(Le.new (φ:=φ) b).tp
 fr:=(Le.new (K:=K) b).fr
 nw:=λn a h=>by
  by_cases c:n < φ.length
  ·rw[aq c]at h;exact .inl h
  ·rw[az (by lia)]at h
   have e:=by
    have:=mem_of_getElem? h
    simpa using this
   subst e;exact .inr b
 st:=(Le.new (K:=K) (φ:=φ) b).st
 fz:=(Le.new (K:=K) (φ:=φ) b).fz
def Le.ofD {o:HO}(b:H D=none)(l:kd K D φ (L2.upd H D o) ox H'):Le K φ H ox H' where
 ex:=l.ex
 tp:=λa v h=>l.tp a v ((Le.new (φ:=φ) b).tp a v h)
 fr:=λa u h n=>by
  have N:a≠D:=by rintro rfl;rw[b]at h;cases h
  exact l.fr a u N (by rw[qh N];exact h) n
 nw:=λn a e=>by
  rcases l.nw n a e with e|e
  ·exact .inl e
  ·by_cases h:a=D
   ·subst h;rw[jD]at e;cases e
   ·rw[qh h]at e;exact .inr e
 st:=λa e=>by
  have E:=l.st a e
  by_cases h:a=D
  ·subst h;rw[jD]at E;cases E
  ·rw[qh h]at E;exact E
 fz:=λa ob u h=>l.fz a ob u (by rw[qh];exact h;rintro rfl;rw[b]at h;cases h)
theorem kd.upd {o:HO}(b:H D=some (.lst xs)):kd K D φ H φ (L2.upd H D o) where
 ex:=λ_ _ h=>h
 tp:=λa v h=>GF h (λxs z=>by rw[b]at z;cases z) (λ_ _ z=>by rw[b]at z;cases z)
 fr:=λa u N h n=>by rw[qh N];exact h
 nw:=λ_ _ h=>.inl h
 st:=λa e=>by
  by_cases h:a=D
  ·subst h;rw[jD]at e;cases e
  ·rw[qh h]at e;exact e
 fz:=λa ob u h=>by rw[qh];exact h;intro e;subst e;rw[b]at h;cases h
def OR.keep {o:O}(h:OR K φ H a o)(l:Le K φ H ox H')(e:∀u,H a=some u->H' a=some u):OR K ox H' a o:=by
 cases o with
 |lst w=>obtain⟨v,q,r⟩:=h;exact⟨v,e _ q,r.mono l⟩|dct s=>obtain⟨v,q,k,r⟩:=h;exact⟨v,e _ q,k,r.mono l⟩|tab q P=>obtain⟨k,p,q,r⟩:=h;exact⟨k,p,e _ q,r.mono l.fz⟩|ro w=>
  obtain⟨v,q,r⟩:=h;refine⟨v,?_,r.mono l⟩;rcases q with ⟨ob,q⟩|q
  ·exact .inl ⟨ob,e _ q⟩
  ·exact .inr q
theorem zJ.alloc {p:Addr}{u:HO}{o:O}(S:zJ K φ A H)(f:H p=none)(new:OR K (φ++[p]) (L2.upd H p u) p o):Le K φ H (φ++[p]) (L2.upd H p u)/\zJ K (φ++[p]) (A++[o]) (L2.upd H p u):=by
 have l:Le K φ H (φ++[p]) (L2.upd H p u):=Le.alloc f;have y:∀(i:Nat) a,(φ++[p])[i]? =some a->i<A.length->φ[i]? =some a:=λi a e B=>by rw[aq (by rw[S.len];exact B)]at e;exact e
 refine⟨l,by simp[S.len],λi j a v t D C d b I M=>?_,λn J e=>?_⟩
 ·by_cases B:i<A.length
  ·by_cases c:j<A.length
   ·rw[aq B]at d
    rw[aq c]at b;exact S.inj i j a v t (y i a D B) (y j a C c) d b I M
   ·exfalso
    rw[aq B]at d;have r:j=A.length:=by have:=(cD.mp b).1;simp at this;lia
    subst r;rw[az (by rw[S.len];exact ax _),S.len]at C
    simp at C;obtain⟨x,E,q⟩:=S.ob i v d;rw[y i a D B]at E;cases E;obtain⟨z,h,_⟩:=q.there I;rw[<- C,f]at h;cases h
  ·have s:i=A.length:=by have:=(cD.mp d).1;simp at this;lia
   by_cases c:j<A.length
   ·exfalso
    rw[aq c]at b;subst s;rw[az (by rw[S.len];exact ax _),S.len]at D
    simp at D;obtain⟨x,E,q⟩:=S.ob j t b;rw[y j a C c]at E;cases E;obtain⟨z,h,_⟩:=q.there M;rw[<- D,f]at h;cases h
   ·have:=(cD.mp b).1;simp at this;lia
 ·by_cases L:n<A.length
  ·rw[aq L]at e
   obtain⟨a,E,q⟩:=S.ob n J e;refine⟨a,l.ex _ _ E,q.keep l λz h=>?_⟩;rw[qh];exact h;intro w;subst w;rw[f]at h;cases h
  ·have g:n=A.length:=by have:=(cD.mp e).1;simp at this;lia
   subst g;simp at e;subst e;exact⟨p,by rw[az (by rw[S.len];exact ax _),S.len];simp,new⟩
def zJ.write {p:Addr}{u:HO}{o o':O}(S:zJ K φ A H)(Q:A[n]? =some o)(m:o.mut=true)(J:o'.mut=true)(c:φ[n]? =some p)(new:OR K φ (L2.upd H p u) p o'):
  Le K φ H φ (L2.upd H p u)/\zJ K φ (A.set n o') (L2.upd H p u):=by
 obtain⟨P,e,q⟩:=S.ob n o Q;rw[c]at e;cases e;obtain⟨z,h,y,N⟩:=q.there m;have l:Le K φ H φ (L2.upd H p u):=Le.upd c (λX e=>by rw[h]at e;exact y X (aB e)) λob v e=>by rw[h]at e;exact N ob v (aB e)
 have U:∀(i:Nat)(w:O),(A.set n o')[i]? =some w->w.mut=true->∃d,A[i]? =some d/\d.mut=true:=λi w e M=>by
  by_cases L:i=n
  ·subst L;exact⟨o,Q,m⟩
  ·rw[aH (Ne.symm L)]at e;exact⟨w,e,M⟩
 refine⟨l,by simp[S.len],λi j a x t h1 h2 D C m1 B=>?_,λi w e=>?_⟩
 ·obtain⟨g,E,k1⟩:=U i x D m1
  obtain⟨f,I,k2⟩:=U j t C B;exact S.inj i j a g f h1 h2 E I k1 k2
 ·by_cases L:i=n
  ·subst L
   have:i<A.length:=(cD.mp Q).1
   rw[aK this]at e;cases e;exact⟨p,c,new⟩
  ·rw[aH (Ne.symm L)]at e
   obtain⟨a,E,r⟩:=S.ob i w e;refine⟨a,E,?_⟩
   by_cases T:w.mut=true
   ·have Z:a≠p:=λz=>L (S.inj i n a w o E (by rw[z];exact c) e Q T m)
    exact r.keep l λz h=>by rw[qh Z];exact h
   ·cases w with
    |lst _=>exact absurd rfl T|dct _=>exact absurd rfl T|tab _ _=>exact absurd rfl T|ro ws=>
     obtain⟨Y,b,s⟩:=r;refine⟨Y,?_,s.mono l⟩;rcases b with ⟨ob,b⟩|b
     ·refine .inl ⟨ob,?_⟩
      rw[qh];exact b;intro z;subst z;rw[h]at b;exact N _ _ (aB b)
     ·exact .inr b
def zJ.lay {p:Addr}{u:HO}(S:zJ K φ A H)(b:H p=none):zJ K φ A (L2.upd H p u):=
 ⟨S.len,S.inj,λn o e=>by obtain⟨a,c,q⟩:=S.ob n o e;refine⟨a,c,q.keep (Le.new b) λz h=>?_⟩;rw[qh];exact h;intro E;subst E;rw[b]at h;cases h⟩
def zJ.off {o:HO}(S:zJ K φ A H)(h:H D=some (.lst xs))(n:∀k:Nat,φ[k]?≠some D):zJ K φ A (L2.upd H D o):=
 ⟨S.len,S.inj,λk u e=>by
  obtain⟨a,E,q⟩:=S.ob k u e;have N:a≠D:=λz=>n k (by rw[<- z];exact E)
  have l:kd K D φ H φ (L2.upd H D o):=kd.upd h;refine⟨a,E,?_⟩;cases u with
  |lst w=>obtain⟨v,q,r⟩:=q;exact⟨v,by rw[qh N];exact q,r.monoD l⟩|dct s=>obtain⟨v,q,k,r⟩:=q;exact⟨v,by rw[qh N];exact q,k,r.monoD l⟩|tab _ _=>obtain⟨k,v,q,r⟩:=q;exact⟨k,v,by rw[qh N];exact q,r.mono l.fz⟩|ro w=>
   obtain⟨v,q,r⟩:=q;refine⟨v,?_,r.monoD l⟩;rcases q with ⟨ob,q⟩|q
   ·exact .inl ⟨ob,by rw[qh N];exact q⟩
   ·exact .inr q⟩
def zJ.notin (S:zJ K φ A H)(b:H D=none)(d:K.lookup D=none):∀k:Nat,φ[k]?≠some D:=λk e=>by
 have c:k<A.length:=by rw[<- S.len];exact(cD.mp e).1
 obtain⟨a,E,q⟩:=S.ob k A[k] (by simp[c])
 rw[e]at E;cases E;cases h:A[k] with
 |lst w=>rw[h]at q;obtain⟨v,z,_⟩:=q;rw[b]at z;cases z|dct w=>rw[h]at q;obtain⟨v,z,_⟩:=q;rw[b]at z;cases z|tab _ _=>rw[h]at q;obtain⟨_,v,z,_⟩:=q;rw[b]at z;cases z|ro w=>
  rw[h]at q;obtain⟨v,z,_⟩:=q;rcases z with ⟨ob,z⟩|⟨o,i,n,z,_⟩
  ·rw[b]at z;cases z
  ·rw[d]at z;cases z
def zJ.YY {u:HO}{o:O}(S:zJ K φ A H)(v:H D=some u)(n:∀k:Nat,φ[k]?≠some D)(new:OR K (φ++[D]) H D o):zJ K (φ++[D]) (A++[o]) H:=by
 have l:QW K φ H (φ++[D]) H:=⟨λn a h=>by
  have:=(cD.mp h).1
  rw[aq this];exact h,λ_ _ h=>h,λ_ _ _ h=>h⟩
 have w:∀(i:Nat) a,(φ++[D])[i]? =some a->i<A.length->φ[i]? =some a:=λi a e y=>by rw[aq (by rw[S.len];exact y)]at e;exact e
 have L:∀a,(φ++[D])[A.length]? =some a->a=D:=λa e=>by
  rw[az (by rw[S.len];exact ax _),S.len]at e
  simpa using e.symm
 refine⟨by simp[S.len],λi j a t s C B p c N M=>?_,λk J e=>?_⟩
 ·by_cases y:i<A.length
  ·by_cases b:j<A.length
   ·rw[aq y]at p
    rw[aq b]at c;exact S.inj i j a t s (w i a C y) (w j a B b) p c N M
   ·exfalso
    have f:j=A.length:=by have:=(cD.mp c).1;simp at this;lia
    subst f;exact n i (by rw[<- L a B];exact w i a C y)
  ·have g:i=A.length:=by have:=(cD.mp p).1;simp at this;lia
   by_cases b:j<A.length
   ·exfalso
    subst g;exact n j (by rw[<- L a C];exact w j a B b)
   ·have:=(cD.mp c).1;simp at this;lia
 ·by_cases P:k<A.length
  ·rw[aq P]at e
   obtain⟨a,E,q⟩:=S.ob k J e;refine⟨a,l.ex _ _ E,?_⟩;cases J with|lst I=>obtain⟨x,z,r⟩:=q;exact⟨x,z,r.monoW l⟩|dct I=>obtain⟨x,z,Z,r⟩:=q;exact⟨x,z,Z,r.monoW l⟩|tab _ _=>exact q|ro I=>obtain⟨x,z,r⟩:=q;exact⟨x,z,r.monoW l⟩
  ·have d:k=A.length:=by have:=(cD.mp e).1;simp at this;lia
   subst d;simp at e;subst e;exact⟨D,by rw[az (by rw[S.len];exact ax _),S.len];simp,new⟩
def Le.YY {b:b8}{d:Hp}(l:Le K b d φ H)(g:d D=none):Le K b d (φ++[D]) H where
 ex:=λn a h=>by
  have c:=l.ex n a h
  have:=(cD.mp c).1
  rw[aq this];exact c
 tp:=l.tp
 fr:=l.fr
 nw:=λn a e=>by
  by_cases f:n < φ.length
  ·rw[aq f]at e;exact l.nw n a e
  ·rw[az (by lia)]at e
   have E:=by
    have:=mem_of_getElem? e
    simpa using this
   subst E;exact .inr g
 st:=l.st
 fz:=l.fz
end
noncomputable abbrev St:=L2.St
abbrev XR:=Str->Hp->Prop
def PB (K:Frag)(b:b8)(H:Hp)(Q:VK):W->Hx->Prop:=λw A=>∀a h v,Le K b H a h->zJ K a A h->RV K a h w v->Q v h
def e8 (K:Frag)(b:b8)(H:Hp)(Q:List V->Hp->Prop):List W->Hx->Prop:=λw A=>∀a h v,Le K b H a h->zJ K a A h->zB K a h w v->Q v h
def EB (K:Frag)(b:b8)(H:Hp)(X:XR):Str->Hx->Prop:=λx A=>∀a h,Le K b H a h->zJ K a A h->X x h
structure RE (K:Frag)(φ:b8)(H:Hp)(ρ:En)(σ:St):Prop where
 len:σ.length=ρ.length
 get:∀(i:Nat)(w:W),ρ[i]? =some (some w)->∃v,σ[i]? =some (some v)/\RV K φ H w v
section
variable {K:Frag}{o5 ox:b8}{H1 H':Hp}{A:Hx}{ρ:En}{xr:XR}
theorem RE.mono (r:RE K φ H ρ σ)(l:Le K φ H ox H'):RE K ox H' ρ σ:=⟨r.len,λi w e=>let ⟨v,a,h⟩:=r.get i w e;⟨v,a,h.mono l⟩⟩
def PB.mono {Q:VK}{w:W}(h:PB K φ H Q w A)(l:Le K φ H o5 H1):PB K o5 H1 Q w A:=λa b v L=>h a b v (l.trans L)
def EB.mono (h:EB K φ H xr x A)(l:Le K φ H o5 H1):EB K o5 H1 xr x A:=λa b L=>h a b (l.trans L)
theorem RE.set {w:W}(r:RE K φ H ρ σ)(q:RV K φ H w v):RE K φ H (ρ.set i (some w)) (σ.set i (some v)):=
 ⟨by simp[r.len],λj u e=>by
  by_cases h:i=j
  ·subst h
   have a:=by
    have:=(cD.mp e).1
    simpa using this
   rw[aK a]at e;cases e;exact⟨v,by rw[aK (by rw[r.len];exact a)],q⟩
  ·rw[aH h]at e
   obtain⟨x,c,b⟩:=r.get j u e;exact⟨x,by rw[aH h];exact c,b⟩⟩
end
inductive MM (K:Frag)(xr:XR)(m:Ev)(σ:St)(H:Hp)(Q:VK):Prop
 |mk (φ:b8) (A:Hx) (ρ:En) (S:zJ K φ A H) (re:RE K φ H ρ σ) (h:(m ρ A).post (PB K φ H Q) (EB K φ H xr))
def tM (K:Frag)(x:XR)(m:Ev):TE:=λa H Q=>MM K x m a H Q
inductive MT (K:Frag)(xr:XR)(m:Ev)(σ:St)(H:Hp)(Q:Bool->Hp->Prop):Prop
 |mk (φ:b8) (A:Hx) (ρ:En) (S:zJ K φ A H) (re:RE K φ H ρ σ) (h:(m ρ A).post (λw A'=>∃b,w=.bl b/\∀ox H',Le K φ H ox H'->zJ K ox A' H'->Q b H') (EB K φ H xr))
def tT (K:Frag)(x:XR)(m:Ev):TT:=λa H Q=>MT K x m a H Q
abbrev Ea:=En->Hx->R (List W)
inductive MA (K:Frag)(xr:XR)(m:Ea)(σ:St)(H:Hp)(Q:List V->Hp->Prop):Prop
 |mk (φ:b8) (A:Hx) (ρ:En) (S:zJ K φ A H) (re:RE K φ H ρ σ) (h:(m ρ A).post (e8 K φ H Q) (EB K φ H xr))
def XQ (K:Frag)(x:XR)(m:Ea):TA:=λa H Q=>MA K x m a H Q
def SE (X:Cx)(x:XR)(e:Expr)(m:Ev):Prop:=PE X e (tM X.K x m)
def ST (X:Cx)(x:XR)(e:Expr)(m:Ev):Prop:=PT X e (tT X.K x m)
def SW (X:Cx)(x:XR)(e:Expr)(m:Ev):Prop:=PW X e (tT X.K x m)
def SA (X:Cx)(x:XR)(e:ck)(m:Ea):Prop:=PA X e (XQ X.K x m)
section
variable {xr:XR}{a b:Expr}{es:ck}{m ma mb mc:Ev}
def PE.imp {t T:TE}(h:PE X e t)(i:∀σ H Q,T σ H Q->t σ H Q):PE X e T:=λp s σ H Q I w=>h p s σ H Q I (i σ H Q w)
def PT.imp {t T:TT}(h:PT X e t)(i:∀σ H Q,T σ H Q->t σ H Q):PT X e T:=λp s σ H Q I w=>h p s σ H Q I (i σ H Q w)
def PW.imp {t T:TT}(h:PW X e t)(i:∀σ H Q,T σ H Q->t σ H Q):PW X e T:=λw p s σ H Q I a=>h w p s σ H Q I (i σ H Q a)
def PA.imp {t T:TA}(h:PA X es t)(i:∀σ H Q,T σ H Q->t σ H Q):PA X es T:=λp P s σ H Q I w=>h p P s σ H Q I (i σ H Q w)
def tM.go {K:Frag}{A:Hx}{c:En}{Q:VK}{G:W->Hx->Prop}(S:zJ K φ A H)(r:RE K φ H c σ)(h:(m c A).post G (EB K φ H xr))
  (k:∀w A1 a b v,G w A1->Le K φ H a b->zJ K a A1 b->RV K a b w v->Q v b):tM K xr m σ H Q:=
 ⟨φ,A,c,S,r,qx h (λw A1 g a b v l s q=>k w A1 a b v g l s q) λ_ _ z=>z⟩
def XQ.go {K:Frag}{A:Hx}{c:En}{m:Ea}{Q:List V->Hp->Prop}{G:List W->Hx->Prop}(S:zJ K φ A H)(r:RE K φ H c σ)(h:(m c A).post G (EB K φ H xr))
  (k:∀w A1 a b v,G w A1->Le K φ H a b->zJ K a A1 b->zB K a b w v->Q v b):XQ K xr m σ H Q:=
 ⟨φ,A,c,S,r,qx h (λw A1 g a b v l s q=>k w A1 a b v g l s q) λ_ _ z=>z⟩
def tT.go {K:Frag}{A:Hx}{c:En}{Q:Bool->Hp->Prop}{G:W->Hx->Prop}(S:zJ K φ A H)(r:RE K φ H c σ)(h:(m c A).post G (EB K φ H xr))
  (k:∀w A1,G w A1->∃b,w=.bl b/\∀a d,Le K φ H a d->zJ K a A1 d->Q b d):tT K xr m σ H Q:=
 ⟨φ,A,c,S,r,qx h (λw A1 g=>k w A1 g) λ_ _ z=>z⟩
noncomputable def zA (i:Nat):Ev:=λa A=>match a[i]? with|some (some w)=>.ok w A|_=>.bad
noncomputable def zE (w:W):Ev:=λ_ A=>.ok w A
noncomputable def zr (g:W->W->Hx->R W)(a b:Ev):Ev:=λd A=>(a d A).bind λx e=>(b d e).bind λy c=>g x y c
noncomputable def jN (g:W->Hx->R W)(a:Ev):Ev:=λb A=>(a b A).bind λx c=>g x c
noncomputable abbrev ZE:Str->Hx->Prop:=λ_ _=>False
def yi (K:Frag)(r:R2)(g:W->W->Hx->R W):Prop:=∀a A H x y u v Q,zJ K a A H->RV K a H u x->RV K a H v y->(g u v A).post (PB K a H Q) ZE->r x y H Q
def XU (K:Frag)(r:V->Hp->VK->Prop)(g:W->Hx->R W):Prop:=∀a A H x u Q,zJ K a A H->RV K a H u x->(g u A).post (PB K a H Q) ZE->r x H Q
def qE (r:R α):Prop:=∀x A,r≠.exc x A
def Yx {r:R α}{P:α->Hx->Prop}{E:Str->Hx->Prop}(n:qE r)(h:r.post P E):r.post P ZE:=by
 cases r with|ok a A=>exact h|exc x A=>exact absurd rfl (n x A)|bad=>exact h
def zr.read {g:W->W->Hx->R W}{r:R2}(p:∀x y A,qE (g x y A))(e:yi X.K r g):∀σ H Q,tM X.K xr (zr g ma mb) σ H Q->WA r (tM X.K xr ma) (tM X.K xr mb) σ H Q:=by
 rintro σ H Q ⟨B,A,C,S,n,h⟩
 refine tM.go S n (zW.mp h) λw E b D v u L f d=>?_;refine tM.go f (n.mono L) (qx (zW.mp u) (λ_ _ z=>z) λ_ _ z=>z.mono L) λc j a i o t l s q=>?_;exact e a j i v o w c Q s (d.mono l) q (qx (Yx (p _ _ _) t) (λ_ _ z=>z.mono (L.trans l)) λ_ _ z=>z)
def jN.read {g:W->Hx->R W}{r:V->Hp->VK->Prop}(n:∀x A,qE (g x A))(b:XU X.K r g):∀σ H Q,tM X.K xr (jN g ma) σ H Q->LN r (tM X.K xr ma) σ H Q:=by
 rintro σ H Q ⟨i,A,j,S,e,h⟩
 refine tM.go S e (zW.mp h) λw f a d v c l s q=>?_;exact b a f d v w Q s q (qx (Yx (n _ _) c) (λ_ _ z=>z.mono l) λ_ _ z=>z)
def Ja {o:Operator}{r:R2}{g:W->W->Hx->R W}(h:qM X (binaryOp o) r)(n:∀x y A,qE (g x y A))(H:yi X.K r g)(d:SE X xr a ma)(c:SE X xr b mb):SE X xr (.BinOp a o b og) (zr g ma mb):=
 PE.imp (dN h d c) (zr.read n H)
def fb {o:UnaryOp}{r:V->Hp->VK->Prop}{g:W->Hx->R W}(h:XM X (unaryOp o) r)(n:∀x A,qE (g x A))(H:XU X.K r g)(b:SE X xr a ma):SE X xr (.UnaryOp o a og) (jN g ma):=
 PE.imp (dO h b) (jN.read n H)
def NI {r:R2}{g:W->W->Hx->R W}(h:qM X (compareOp op) r)(n:∀x y A,qE (g x y A))(H:yi X.K r g)(d:SE X xr a ma)(c:SE X xr b mb)(e:behindInMarks op b=false):SE X xr (.Compare a [op] [b] og) (zr g ma mb):=
 PE.imp (d2 h d c e) (zr.read n H)
def tT.toM {K:Frag}{Q:Bool->Hp->Prop}(h:tT K xr m σ H Q):tM K xr m σ H λx d=>∃k,x=.bl k/\Q k d:=by obtain⟨g,A,i,S,r,h⟩:=h;refine tM.go S r h λw j a f v ⟨b,e,q⟩ l s c=>?_;subst e;exact⟨b,c,q a f l s⟩
def NY {r:R2}{g:W->W->Hx->R W}(o:qM X (compareOp op) r)(n:∀x y A,qE (g x y A))(c:yi X.K r g)(e:SE X xr a ma)(d:SE X xr b mb)(i:behindInMarks op b=false):ST X xr (.Compare a [op] [b] og) (zr g ma mb):=
 PT.imp (d3 o e d i) λf H Q h=>zr.read n c f H _ h.toM
noncomputable def yG (g e:W->W->Hx->R W)(a b c:Ev):Ev:=λi A=>(a i A).bind λx j=>(b i j).bind λy h=>(g x y h).bind λz d=>match z with|.bl true=>(c i d).bind λw f=>e y w f|.bl false=>.ok (.bl false) d|_=>.bad
def yG.read {g p:W->W->Hx->R W}{r i:R2}(hn:∀x y A,qE (g x y A))(T:yi X.K r g)(j:∀x y A,qE (p x y A))(n:yi X.K i p):
  ∀σ H Q,tM X.K xr (yG g p ma mb mc) σ H Q->UM r i (tM X.K xr ma) (tM X.K xr mb) (tM X.K xr mc) σ H Q:=by
 rintro σ H Q ⟨φ,A,ρ,S,re,h⟩
 refine tM.go S re (zW.mp h) λw A1 E H1 v h1 l1 S1 P=>?_;refine tM.go S1 (re.mono l1) (qx (zW.mp h1) (λ_ _ z=>z) λ_ _ z=>z.mono l1) λf D b C v2 h2 u Z s=>?_;have L:=l1.trans u;have o:=zW.mp h2;have a:(g w f D).post (PB X.K b C λz c=>∃k,z=.bl k/\if k=true then tM X.K xr mc σ c λJ q=>i v2 J q Q else Q (.bl false) c) ZE:=by
  refine qx (Yx (hn _ _ _) o) (λz A3 a e c zv t B N=>?_) λ_ _ z=>z;have l:=L.trans t;cases z with
  |bl k=>
   refine⟨k,N,?_⟩;cases k with
   |true=>
    refine tM.go B (re.mono l) (qx (zW.mp a) (λ_ _ z=>z) λ_ _ z=>z.mono l) λI A4 d q v4 U l4 Y M=>?_;exact n d A4 q v2 v4 f I Q Y ((s.mono t).mono l4) M (qx (Yx (j _ _ _) U) (λ_ _ z=>z.mono (l.trans l4)) λ_ _ z=>z)
   |false=>
    exact a e c _ l B rfl
  |non=>cases a|int _=>cases a|str _=>cases a|tup _=>cases a|ref _=>cases a|clo _ _ _=>cases a|xc _=>cases a
 exact T b D C v v2 w f _ Z (P.mono u) s a
def BO {c:Expr}{o:CmpOp}{r f:R2}{g e:W->W->Hx->R W}(i:qM X (compareOp op) r)(q:∀x y A,qE (g x y A))(j:yi X.K r g)(h:qM X (compareOp o) f)(H:∀x y A,qE (e x y A))(d:yi X.K f e)
  (p:SE X xr a ma)(n:SE X xr b mb)(l:SE X xr c mc)(s:lastMarks [op,o] [b,c]=false:=by with_unfolding_all rfl):SE X xr (.Compare a [op,o] [b,c] og) (yG g e ma mb mc):=
 PE.imp (Ag i h p n l s) (yG.read q j H d)
def An {c:Expr}{o:CmpOp}{r j:R2}{g i:W->W->Hx->R W}(l:qM X (compareOp op) r)(u:∀x y A,qE (g x y A))(n:yi X.K r g)(d:qM X (compareOp o) j)(e:∀x y A,qE (i x y A))(f:yi X.K j i)
  (s:SE X xr a ma)(q:SE X xr b mb)(p:SE X xr c mc)(v:lastMarks [op,o] [b,c]=false:=by with_unfolding_all rfl):ST X xr (.Compare a [op,o] [b,c] og) (yG g i ma mb mc):=
 PT.imp (C0 l d s q p v) λt H Q h=>yG.read u n e f t H _ h.toM
noncomputable def gT (a b:Ev):Ev:=λc A=>(a c A).bind λx d=>match x with|.bl true=>b c d|.bl false=>.ok (.bl false) d|_=>.bad
noncomputable def ZF (a b:Ev):Ev:=λc A=>(a c A).bind λx d=>match x with|.bl true=>.ok (.bl true) d|.bl false=>b c d|_=>.bad
noncomputable def jF (a:Ev):Ev:=λb A=>(a b A).bind λx c=>match x with|.bl k=>.ok (.bl (!k)) c|_=>.bad
noncomputable def fc (c a b:Ev):Ev:=λd A=>(c d A).bind λx e=>match x with|.bl true=>a d e|.bl false=>b d e|_=>.bad
theorem tT.mono {K:Frag}{c:b8}{g:Hp}{i:Hx}{f:En}{Q:Bool->Hp->Prop}(S:zJ K c i g)(L:Le K φ H c g)(r:RE K φ H f σ)
  (h:(m f i).post (λw A=>∃b,w=.bl b/\∀a d,Le K φ H a d->zJ K a A d->Q b d) (EB K φ H xr)):tT K xr m σ g Q:=
 ⟨c,i,f,S,r.mono L,qx h (λw A ⟨b,e,q⟩=>⟨b,e,λa d l s=>q a d (L.trans l) s⟩) λ_ _ z=>z.mono L⟩
noncomputable def zq:Ea:=λ_ A=>.ok [] A
noncomputable def zi (a:Ev)(r:Ea):Ea:=λc A=>(a c A).bind λx d=>(r c d).bind λX b=>.ok (x::X) b
def N4:SA X xr [] zq:=PA.imp jQ λb H Q ⟨a,A,c,S,r,h⟩=>h a H [] .refl S .nil
def Ni {M:Ea}(d:SE X xr e ma)(r:SA X xr es M)(s:qR e es X:=by rfl):SA X xr (e::es) (zi ma M):=
 PA.imp (qX d r s) λx H Q ⟨u,A,y,S,o,h⟩=>by refine tM.go S o (zW.mp h) λw D b C v t L g c=>?_;refine XQ.go g (o.mono L) (qx (zW.mp t) (λ_ _ z=>z) λ_ _ z=>z.mono L) λj n a i B p l f q=>?_;exact p a i _ (L.trans l) f (.cons (c.mono l) q)
noncomputable def qc (a:Ea):Ev:=λb A=>(a b A).bind λx c=>.ok (.tup x) c
noncomputable def qF (a:Ea):Ev:=λc A=>(a c A).bind λx b=>.ok (.ref b.length) (b++[.lst x])
def QA {K:Frag}{A:Hx}{p:Addr}{w:List W}(S:zJ K φ A H)(h:H p=none)(r:zB K φ H w vs):
  Le K φ H φ (upd H p (.tup vs))/\zJ K φ A (upd H p (.tup vs))/\RV K φ (upd H p (.tup vs)) (.tup w) (.ref p):=
 ⟨Le.new h,S.lay h,p,vs,rfl,qy.of jD,r.mono (Le.new h)⟩
def Je {K:Frag}{A:Hx}{p:Addr}{w:List W}(S:zJ K φ A H)(h:H p=none)(r:zB K φ H w vs):
  Le K φ H (φ++[p]) (upd H p (.lst vs))/\zJ K (φ++[p]) (A++[.lst w]) (upd H p (.lst vs))/\RV K (φ++[p]) (upd H p (.lst vs)) (.ref A.length) (.ref p):=by
 obtain⟨b,a⟩:=S.alloc (o:=.lst w) h ⟨vs,jD,r.mono (Le.alloc h)⟩;exact⟨b,a,p,rfl,by rw[<- S.len];simp⟩
def fe {M:Ea}(h:SA X xr es M)(l:∀ρ A ws b,M ρ A=.ok ws b->ws.length<=sizeLine):SE X xr (.List es og) (qF M):=
 PE.imp (d7 h) λn H Q ⟨g,A,ρ,S,r,h⟩=>by
  have a:=zW.mp h;cases e:M ρ A with
  |ok ws b=>
   rw[e]at a;refine⟨g,A,ρ,S,r,?_⟩;rw[e];intro c o v L s q;refine⟨by rw[<- q.length];exact l ρ A ws b e,λp d=>?_⟩
   obtain⟨j,i,f⟩:=Je s d q;exact a _ _ _ (L.trans j) i f
  |exc x b=>rw[e]at a;refine⟨g,A,ρ,S,r,?_⟩;rw[e];exact a|bad=>rw[e]at a;exact a.elim
end
inductive Fl where
 |nx (ρ:En)|rt (w:W)|bk (ρ:En)|ct (ρ:En)
abbrev Ex:=En->Hx->R Fl
def FB (K:Frag)(d:b8)(H:Hp)(D:Ends):Fl->Hx->Prop
 |.nx c,A=>∀a h b,Le K d H a h->zJ K a A h->RE K a h c b->D.nx b h|.rt w,A=>∀a h v,Le K d H a h->zJ K a A h->RV K a h w v->D.rt v h|.bk c,A=>∀a h b,Le K d H a h->zJ K a A h->RE K a h c b->D.bk b h|.ct c,A=>∀a h b,Le K d H a h->zJ K a A h->RE K a h c b->D.ct b h
def FB.mono {K:Frag}{c:b8}{e:Hp}{D:Ends}{fl:Fl}{A:Hx}(h:FB K φ H D fl A)(l:Le K φ H c e):FB K c e D fl A:=by
 cases fl with|nx d=>exactλa b v L=>h a b v (l.trans L)|rt d=>exactλa b v L=>h a b v (l.trans L)|bk d=>exactλa b v L=>h a b v (l.trans L)|ct d=>exactλa b v L=>h a b v (l.trans L)
inductive MS (K:Frag)(xr:XR)(m:Ex)(D:Ends)(σ:St)(H:Hp):Prop
 |mk (φ:b8) (A:Hx) (ρ:En) (S:zJ K φ A H) (re:RE K φ H ρ σ) (h:(m ρ A).post (FB K φ H D) (EB K φ H xr))
def tS (K:Frag)(x:XR)(m:Ex):TS:=λD a H=>MS K x m D a H
def SS (X:Cx)(x:XR)(s:Stmt)(m:Ex):Prop:=PS X s (tS X.K x m)
def J4 (X:Cx)(x:XR)(s:cy)(m:Ex):Prop:=yL X s (tS X.K x m)
section
variable {xr:XR}{a b c:Expr}{st:Stmt}{o7:cy}{m:Ev}{m1 m2:Ex}
def PS.imp {t T:TS}(h:PS X st t)(i:∀D σ H,T D σ H->t D σ H):PS X st T:=λp s σ H D I w=>h p s σ H D I (i D σ H w)
def yL.imp {t T:TS}(h:yL X o7 t)(i:∀D σ H,T D σ H->t D σ H):yL X o7 T:=λp s σ H D I w=>h p s σ H D I (i D σ H w)
noncomputable def qj:Ex:=λa A=>.ok (.nx a) A
noncomputable def zS (d M:Ex):Ex:=λc A=>(d c A).bind λfl b=>match fl with|.nx a=>M a b|f=>.ok f b
noncomputable def Jt (m:Ev):Ex:=λa A=>(m a A).bind λ_ b=>.ok (.nx a) b
noncomputable def kN (m:Ev):Ex:=λa A=>(m a A).bind λw b=>.ok (.rt w) b
noncomputable def jx (c:Ev)(a b:Ex):Ex:=λd A=>(c d A).bind λx e=>match x with|.bl true=>a d e|.bl false=>b d e|_=>.bad
noncomputable def je (i:Nat)(m:Ev):Ex:=λa A=>(m a A).bind λw b=>.ok (.nx (a.set i (some w))) b
def je.read:∀D σ H,tS X.K xr (je i m) D σ H->XA (tM X.K xr m) (Xi i) D σ H:=by
 rintro D σ H ⟨d,A,e,S,r,h⟩
 exact tM.go S r (zW.mp h) λw f a c v b l s q=>b a c _ l s ((r.mono l).set q)
noncomputable def Xe (g:W->W->W->Hx->R Unit)(f M e:Ev):Ex:=λd A=>(f d A).bind λv h=>(M d h).bind λo c=>(e d c).bind λi b=>(g o i v b).bind λ_ a=>.ok (.nx d) a
def MC (K:Frag)(t:JY)(g:W->W->W->Hx->R Unit):Prop:=∀d A H o i v w b e Q,zJ K d A H->RV K d H w o->RV K d H b i->RV K d H e v->
 (g w b e A).post (λ_ c=>∀a h,Le K d H a h->zJ K a c h->Q h) ZE->t o i v H Q
def CW {o i:Expr}{mo mi:Ev}{t:JY}{g:W->W->W->Hx->R Unit}(I:Xs X t)(hn:∀o i v A,qE (g o i v A))(N:MC X.K t g)(he:SE X xr e m)(M:SE X xr o mo)(hi:SE X xr i mi)
  (J:swapsWithSole [.Subscript o i ou] e og.line X.env=pure false:=by rfl)(hw:swappedStores [.Subscript o i ou] e X.env=pure none:=by rfl)
  (h1:(assignEach [.Subscript o i ou] X.env).map (·.2)=[assign (.Subscript o i ou) X.env]:=by rfl)
  (P:∀v,assign (.Subscript o i ou) X.env v=(do
   let ov <- holding [v] (eval o X.env)
   let iv <- holding [v,ov] (eval i X.env)
   standAt ou
   holding [v,ov,iv] (setItem ov iv v)
   release [v,ov,iv] []):=by intro _;rfl):SS X xr (.Assign [.Subscript o i ou] e og) (Xe g m mo mi):=
 PS.imp (Mj he (dz M hi I P) J hw h1) λD σ H ⟨φ,A,ρ,S,re,h⟩=>by
  refine tM.go S re (zW.mp h) λj A1 y H1 v1 h1 l1 Z E=>?_;refine tM.go Z (re.mono l1) (qx (zW.mp h1) (λ_ _ z=>z) λ_ _ z=>z.mono l1) λf A2 s H2 v2 h2 n Y C=>?_;have l:=l1.trans n;refine tM.go Y (re.mono l) (qx (zW.mp h2) (λ_ _ z=>z) λ_ _ z=>z.mono l) λw q c H3 B a d U Q=>?_;have L:=l.trans d;refine N c q H3 v2 B v1 f w j _ U (C.mono d) Q (E.mono (n.trans d)) ?_;cases r:g f w j q with
  |ok u p=>
   rw[r]at a;exactλb H4 l4 T=>a b H4 σ (L.trans l4) T (re.mono (L.trans l4))
  |exc x p=>exact absurd r (hn _ _ _ _ x p)|bad=>rw[r]at a;exact a.elim
structure jf where
 at_:Hx->Nat->Option (Option W)
 len:Nat
def QV (K:Frag)(c:b8)(H:Hp)(j:jf)(J:It):Prop:=∀i a h A,QW K c H a h->zJ K a A h->
 (∀w,j.at_ A i=some (some w)->J.go i h/\∀x b,J.yld i h x b->Le K a h a b/\zJ K a A b/\RV K a b w x)/\(j.at_ A i=some none->J.stop i h)
abbrev Ei:=En->Hx->R jf
inductive MI (K:Frag)(xr:XR)(mi:Ei)(σ:St)(H:Hp)(Rr:It->Hp->Prop):Prop
 |mk (φ:b8) (A:Hx) (ρ:En) (S:zJ K φ A H) (re:RE K φ H ρ σ) (h:(mi ρ A).post (λj A1=>∀o5 H1 J,Le K φ H o5 H1->zJ K o5 A1 H1->QV K o5 H1 j J->Rr J H1) (EB K φ H xr))
def tI (K:Frag)(x:XR)(M:Ei):TI:=λa H r=>MI K x M a H r
def SI (X:Cx)(x:XR)(t i:Expr)(M:Ei):Prop:=PI X t i (tI X.K x M)
def PI.imp {t T:TI}(h:PI X tg e t)(i:∀σ H Q,T σ H Q->t σ H Q):PI X tg e T:=λp s σ H Q I w=>h p s σ H Q I (i σ H Q w)
abbrev Tg:=W->En->Option En
inductive MG (K:Frag)(tw:Tg)(v:V)(σ:St)(H:Hp)(Q:St->Hp->Prop):Prop
 |mk (φ:b8) (A:Hx) (ρ:En) (w:W) (ρ':En) (S:zJ K φ A H) (re:RE K φ H ρ σ) (rv:RV K φ H w v) (t:tw w ρ=some ρ') (q:∀σ',RE K φ H ρ' σ'->Q σ' H)
def tG (K:Frag)(t:Tg):TG:=λv a H Q=>MG K t v a H Q
def SG (X:Cx)(t:Expr)(T:Tg):Prop:=PG X t (tG X.K T)
def PG.imp {t T:TG}(h:PG X tg t)(i:∀v σ H Q,T v σ H Q->t v σ H Q):PG X tg T:=λp s σ H v u Q I r w=>h p s σ H v u Q I r (i v σ H Q w)
noncomputable def qa (i:Nat):Tg:=λw a=>some (a.set i (some w))
noncomputable def yt (i j:Nat):Tg:=λw a=>match w with|.tup [x,y]=>some ((a.set i (some x)).set j (some y))|_=>none
noncomputable def j6 (j:jf)(s:W->Ex):Nat->Nat->Ex
 |0,i,ρ,A=>match j.at_ A i with|some none=>.ok (.nx ρ) A|_=>.bad
 |f+1,i,ρ,A=>match j.at_ A i with
  |some none=>.ok (.nx ρ) A|some (some w)=>(s w ρ A).bind λfl b=>match fl with|.nx a=>j6 j s f (i+1) a b|.ct a=>j6 j s f (i+1) a b|.bk a=>.ok (.nx a) b|.rt w=>.ok (.rt w) b
  |none=>.bad
noncomputable def turn (t:Tg)(b:Ex)(w:W):Ex:=λc A=>match t w c with|some a=>b a A|none=>.bad
def w5 (M:Ei)(t:Tg)(b:Ex):Ex:=λa A=>(M a A).bind λj c=>j6 j (turn t b) j.len 0 a c
inductive LF (K:Frag)(xr:XR)(j:jf)(t:W->Ex)(D:Ends)(o5:b8)(H1:Hp)(f i:Nat)(σ':St)(H':Hp):Prop
 |mk (φ2:b8) (A2:Hx) (ρ2:En) (l:Le K o5 H1 φ2 H') (S:zJ K φ2 A2 H') (re:RE K φ2 H' ρ2 σ') (h:(j6 j t f i ρ2 A2).post (FB K φ2 H' D) (EB K φ2 H' xr))
noncomputable def Jm (c:Ev)(B:Ex):Nat->Ex
 |0,ρ,A=>.bad|f+1,ρ,A=>(c ρ A).bind λx d=>match x with
  |.bl true=>(B ρ d).bind λfl a=>match fl with|.nx b=>Jm c B f b a|.ct b=>Jm c B f b a|.bk b=>.ok (.nx b) a|.rt w=>.ok (.rt w) a
  |.bl false=>.ok (.nx ρ) d|_=>.bad
def N3 (f:Nat)(c:Ev)(b:Ex):Ex:=Jm c b f
noncomputable def JP (n:Nat)(c:cb)(a:En):En:=List.replicate n none++c.map λi=>(a[i]?).join
theorem RE.Z8 {K:Frag}{b:En}{n:Nat}(r:RE K φ H b σ):RE K φ H (JP n cap b) (L2.Z8 n cap σ):=by
 refine⟨by simp[JP,L2.Z8],λi w e=>?_⟩
 unfold JP at e;unfold L2.Z8
 by_cases d:i<n
 ·rw[aq (by simpa using d),bF]at e
  split at e<;>cases e
 ·rw[az (by simpa using d),bN,ar]at e
  rw[az (by simpa using d),bN,ar]
  cases c:cap[i-n]? with
  |none=>rw[c]at e;cases e|some k=>
   rw[c]at e;have E:(b[k]?).join=some w:=aB e;cases h:b[k]? with
   |none=>rw[h]at E;cases E|some o=>cases o with
    |none=>rw[h]at E;cases E|some a=>
     rw[h]at E;cases E;obtain⟨v,g,f⟩:=r.get k w h;exact⟨v,by simp[g],f⟩
abbrev Em:=En->List W->Hx->R (En×List W)
noncomputable def zM:Nat:=100000
def qi (e:Ev):Em:=λb a A=>(e b A).bind λy c=>if a.length<zM then .ok (b,a++[y]) c else .bad
noncomputable def qT (j:jf)(t:Tg)(I:Ev)(e:Em):Nat->Nat->Em
 |0,i,ρ,acc,A=>match j.at_ A i with|some none=>.ok (ρ,acc) A|_=>.bad
 |f+1,i,ρ,acc,A=>match j.at_ A i with
  |some none=>.ok (ρ,acc) A|some (some w)=>match t w ρ with
   |some b=>(I b A).bind λc d=>match c with|.bl true=>(e b acc d).bind λp a=>qT j t I e f (i+1) p.1 p.2 a|.bl false=>qT j t I e f (i+1) b acc d|_=>.bad
   |none=>.bad
  |none=>.bad
def Z4 (M:Ei)(t:Tg)(i:Ev)(e:Em):Em:=λb a A=>(M b A).bind λj c=>qT j t i e j.len 0 b a c
abbrev jH:=En->Hx->R (List W)
def qC (n:Nat)(c:cb)(M:Ei)(t:Tg)(i:Ev)(e:Em):jH:=λb A=>(M b A).bind λj d=>(qT j t i e j.len 0 (JP n c b) [] d).nox.bind λp a=>.ok p.2 a
def Si (K:Frag)(D:Addr)(c:b8)(H:Hp)(Q:St->Hp->Prop)(p:En×List W)(A:Hx):Prop:=∀a h b z,kd K D c H a h->(∀k:Nat,a[k]?≠some D)->zJ K a A h->RE K a h p.1 b->h D=some (.lst z)->zB K a h p.2 z->Q b h
inductive ME (K:Frag)(em:Em)(D:Addr)(σ:St)(H:Hp)(Q:St->Hp->Prop):Prop
 |mk (φ:b8) (A:Hx) (ρ:En) (acc:List W) (ys:List V) (S:zJ K φ A H) (re:RE K φ H ρ σ) (hD:H D=some (.lst ys)) (nD:∀k:Nat,φ[k]?≠some D) (rv:zB K φ H acc ys)
  (h:(em ρ acc A).post (Si K D φ H Q) ZE)
def tE (K:Frag)(e:Em):gF:=λD a H Q=>ME K e D a H Q
noncomputable abbrev yd:XR:=λ_ _=>False
def SM (X:Cx)(e:Expr)(g:List Comprehension)(s:Scope)(c:Pos)(d:Nat)(E:Em):Prop:=gc X e g s c d (tE X.K E)
def gc.imp {d:Nat}{t T:gF}(h:gc X o6 om sc og d t)(i:∀D σ H Q,T D σ H Q->t D σ H Q):gc X o6 om sc og d T:=
 λp s σ H D Q k q E I w a=>h p s σ H D Q k q E I (i D σ H Q w) a
def VQ {K:Frag}{r:R α}{P:α->Hx->Prop}(h:r.post P ZE):r.post P (EB K φ H yd):=qx h (λ_ _ z=>z) λ_ _ z=>z.elim
def WN (X:Cx)(i:ck)(m:Ev):Prop:=QJ X i (tT X.K yd m)
inductive LJ (tw:Tg)(ifs:Ev)(em:Em)(j:jf)(K:Frag)(D:Addr)(φ:b8)(H:Hp)(Q:St->Hp->Prop)(f i:Nat)(σ':St)(H':Hp):Prop
 |mk (φ2:b8) (A2:Hx) (ρ2:En) (acc2:List W) (ys2:List V) (l:kd K D φ H φ2 H') (S:zJ K φ2 A2 H') (re:RE K φ2 H' ρ2 σ') (hD:H' D=some (.lst ys2)) (nD:∀k:Nat,φ2[k]?≠some D) (ra:zB K φ2 H' acc2 ys2) (h:(qT j tw ifs em f i ρ2 acc2 A2).post (Si K D φ H Q) ZE)
def qT.read {tw:Tg}{ifs:Ev}{em:Em}{j:jf}{J:It}{K:Frag}{A:Hx}{ρ:En}{acc:List W}{Q:St->Hp->Prop}{f:Nat}
  (jr:QV K φ H j J)
  (S:zJ K φ A H)(re:RE K φ H ρ σ)(hD:H D=some (.lst ys))(nD:∀k:Nat,φ[k]?≠some D)(ra:zB K φ H acc ys)
  (h:(qT j tw ifs em f 0 ρ acc A).post (Si K D φ H Q) ZE):
  Wc J (tG K tw) (tT K yd ifs) (tE K em) D σ H Q:=by
 refine⟨λi f a I=>LJ tw ifs em j K D φ H Q f i a I,
  ⟨f,φ,A,ρ,acc,ys,.refl,S,re,hD,nD,ra,h⟩,?_⟩
 rintro i f P H2 ⟨e,A2,q,d,Y,u,S2,s,C,t,l,h2⟩
 obtain⟨j1,j2⟩:=jr i e H2 A2 ⟨u.ex,u.tp,u.fz⟩ S2;cases E:j.at_ A2 i with
 |none=>cases f<;>(unfold qT at h2;rw[E]at h2;exact h2.elim)|some o=>
  cases o with
  |none=>
   left
   refine⟨j2 E,?_⟩;cases f<;>(unfold qT at h2;rw[E]at h2;exact h2 e H2 P Y u t S2 s C l)
  |some w=>
   right
   obtain⟨go,yl⟩:=j1 w E;cases f with
   |zero=>unfold qT at h2;rw[E]at h2;exact h2.elim|succ f=>
    unfold qT at h2;rw[E]at h2;refine⟨go,λa I=>LJ tw ifs em j K D φ H Q f (i+1) a I,λa I z=>⟨f,bz _,z⟩,λx H3 y=>?_⟩;obtain⟨L,S3,q3⟩:=yl x H3 y;obtain⟨X,U⟩:=L.off C t;dsimp only at h2;cases Z:tw w q with
    |none=>rw[Z]at h2;exact h2.elim|some g=>
     rw[Z]at h2;refine⟨e,A2,q,w,g,S3,s.mono L,q3,Z,λσ3 r=>?_⟩;refine tT.go S3 r (VQ (zW.mp h2)) λc A4 b=>?_;cases c with
     |bl k=>
      refine⟨k,rfl,λn H4 l4 S4=>?_⟩;obtain⟨B,N⟩:=l4.off X U;have v:=(u.trans (L.trans l4).toD);cases k with
      |true=>
       refine⟨n,A4,g,d,Y,S4,r.mono l4,B,N,l.mono (L.trans l4),qx (zW.mp b) (λp A5 h5 M H5 σ5 zs l5 n5 S5 T d5 r5=>?_) λ_ _ z=>z⟩;exact⟨M,A5,p.1,p.2,zs,v.trans l5,S5,T,d5,n5,r5,h5⟩
      |false=>
       exact⟨n,A4,g,d,Y,v,S4,r.mono l4,B,N,l.mono (L.trans l4),b⟩
     |non=>cases b|int _=>cases b|str _=>cases b|tup _=>cases b|ref _=>cases b|clo _ _ _=>cases b|xc _=>cases b
def QV.mono {K:Frag}{b:b8}{f:Hp}{j:jf}{J:It}(h:QV K φ H j J)(l:QW K φ H b f):QV K b f j J:=
 λi c d A L=>h i c d A ⟨λn a e=>L.ex n a (l.ex n a e),λa v e=>L.tp a v (l.tp a v e),λa o u e=>L.fz a o u (l.fz a o u e)⟩
inductive MF (K:Frag)(xr:XR)(mq:jH)(σ:St)(H:Hp)(Q:VK):Prop
 |mk (φ:b8) (A:Hx) (ρ:En) (S:zJ K φ A H) (re:RE K φ H ρ σ) (h:(mq ρ A).post (λws A1=>∀o5 H1 D ys,Le K φ H o5 H1->zJ K o5 A1 H1->H D=none->H1 D=some (.lst ys)->(∀k:Nat,o5[k]?≠some D)->zB K o5 H1 ws ys->Q (.ref D) H1) (EB K φ H xr))
def tF (K:Frag)(x:XR)(mq:jH):TE:=λa H Q=>MF K x mq a H Q
def SF (X:Cx)(x:XR)(e:Expr)(mq:jH):Prop:=PE X e (tF X.K x mq)
theorem qC.read {P:Ei}{T:Tg}{M:Ev}{E:Em}{N:Nat}:∀σ H Q,tF X.K xr (qC N cap P T M E) σ H Q->Xk X.K (tI X.K xr P) (tG X.K T) (tT X.K yd M) (tE X.K E) N cap σ H Q:=by
 rintro σ H Q ⟨Y,A,C,S,I,h⟩
 refine⟨Y,A,C,S,I,qx (zW.mp h) (λj A1 h1 b U J B s o D c q=>?_) λ_ _ z=>z⟩;have y:Le X.K b U b (upd U D (.lst [])):=Le.new c;have a:=zW.mp h1;refine qT.read (o.mono ⟨y.ex,y.tp,y.fz⟩) (s.lay c) ((I.mono (B.trans y)).Z8) jD (s.notin c q) .nil ?_ (f:=j.len);cases e:qT j T M E j.len 0 (JP N cap C) [] A1 with
 |ok p w=>
  rw[e]at a;intro d v g Z L n u r t i;have l:=B.trans (Le.ofD c L);exact a d v D Z l u (B.st D c) t n i
 |exc x w=>rw[e]at a;exact a.elim|bad=>rw[e]at a;exact a.elim
noncomputable def yb (q:jH):Ev:=λb A=>(q b A).bind λw a=>.ok (.ref a.length) (a++[.lst w])
def yb.read {q:jH}{K:Frag}:∀σ H Q,tM K xr (yb q) σ H Q->tF K xr q σ H Q:=by
 rintro σ H Q ⟨e,A,f,S,g,h⟩
 refine⟨e,A,f,S,g,qx (zW.mp h) (λw o i b d D y L s j c N r=>?_) λ_ _ z=>z⟩;have l:=L.YY j;have lw:QW K b d (b++[D]) d:=⟨λn a h=>by
  have:=(cD.mp h).1
  rw[aq this];exact h,λ_ _ h=>h,λ_ _ _ h=>h⟩
 refine i _ _ _ l (s.YY c N ⟨y,c,r.monoW lw⟩) ⟨D,rfl,?_⟩;rw[<- s.len];simp
inductive MQ (K:Frag)(xr:XR)(mq:jH)(σ:St)(H:Hp)(Q:VK):Prop
 |mk (φ:b8) (A:Hx) (ρ:En) (S:zJ K φ A H) (re:RE K φ H ρ σ) (h:(mq ρ A).post (λws A1=>∀o5 H1 a ys,Le K φ H o5 H1->zJ K o5 A1 H1->(jd K H1 a ys∨qy K H1 a ys)->zB K o5 H1 ws ys->Q (.ref a) H1) (EB K φ H xr))
def tQ (K:Frag)(x:XR)(mq:jH):TE:=λa H Q=>MQ K x mq a H Q
def SQ (X:Cx)(x:XR)(e:Expr)(mq:jH):Prop:=PE X e (tQ X.K x mq)
noncomputable def zK (w:W)(A:Hx):Option (List W):=match w with
 |.tup s=>some s|.ref n=>match A[n]? with|some (.lst s)=>some s|some (.ro s)=>some s|_=>none
 |_=>none
def Vw {K:Frag}{A:Hx}{w:W}{s:List W}(S:zJ K φ A H)(q:RV K φ H w v)(e:zK w A=some s):∃a y,v=.ref a/\(jd K H a y∨qy K H a y)/\zB K φ H s y:=by
 unfold zK at e;cases w with
 |tup x=>cases e;obtain⟨a,y,b,c,E⟩:=q;exact⟨a,y,b,.inr c,E⟩|ref n=>
  obtain⟨a,b,c⟩:=q;dsimp only at e;cases ea:A[n]? with
  |none=>rw[ea]at e;cases e|some o=>
   rw[ea]at e;obtain⟨d,E,r⟩:=S.ob n o ea;rw[c]at E;cases E;cases o with|lst x=>cases e;obtain⟨y,f,h⟩:=r;exact⟨a,y,b,.inl (jd.of f),h⟩|ro x=>cases e;obtain⟨y,f,h⟩:=r;exact⟨a,y,b,.inl f.sq,h⟩|dct x=>cases e|tab _ _=>cases e
 |non=>cases e|bl _=>cases e|clo _ _ _=>cases e|xc _=>cases e|int _=>cases e|str _=>cases e
def jc (m:Ev):jH:=λb A=>(m b A).bind λw a=>match zK w a with|some s=>.ok s a|none=>.bad
def Wz (w:W)(A:Hx):Option jf:=match zK w A with|some s=>some ⟨λA i=>(zK w A).map λs=>s[i]?,s.length⟩|none=>none
def qJ (m:Ev):Ei:=λb A=>(m b A).bind λw a=>match Wz w a with|some j=>.ok j a|none=>.bad
def fg (K:Frag)(t:TE):TI:=λb H r=>t b H λx h=>∃a,x=.ref a/\(((∃X,jd K h a X)/\r (LI K a) h)∨((∃X,qy K h a X)/\r (Lx K a) h))
def fh {l:Expr}{t:TE}(j:PE X l t):PI X tg l (fg X.K t):=by
 intro P s y H u I h;refine zT (j P s y H _ I h) λv S ⟨x,w,i,g,Q⟩=>?_;obtain⟨a,e,q⟩:=Q;subst e;cases g;have f:∀b∈[S.heap.objs.size],wC X P w b:=λb n=>by
  have e:=by simpa using n
  subst e;exact i.fpOk (ax _) (i.hok.fresh (ax _))
 rcases q with ⟨⟨A,d⟩,q⟩|⟨⟨A,d⟩,q⟩
 ·obtain⟨c,r,p,z⟩:=i.list d
  refine wpAny_pyIter_list p.isList ?_;exact⟨S.heap.objs.size,[S.heap.objs.size],_,_,w,rfl,i.kept λb o e=>af _ e,DU a _,⟨_,ay _ rfl,rfl,rfl⟩,f,q⟩
 ·obtain⟨c,r,p,z⟩:=i.tuple d
  refine wpAny_pyIter_tuple (show S.heap.IsTuple a c.toArray from p) ?_
  exact⟨S.heap.objs.size,[S.heap.objs.size],_,_,w,rfl,i.kept λb o e=>af _ e,EV a _,⟨_,ay _ rfl,rfl,rfl⟩,f,q⟩
noncomputable def kZ (l:Int)(n:Nat):jf:=⟨λ_ i=>if i<n then some (some (.int (l+i))) else some none,n⟩
def NL {K:Frag}{l:Int}:QV K φ H (kZ l n) (WL l n):=λi a h A lw S=>by
 unfold kZ;dsimp only
 by_cases c:i<n
 ·rw[aj c]
  refine⟨λw e=>?_,λe=>by cases e⟩
  cases e;exact⟨c,λx d ⟨b,E⟩=>by subst b;exact⟨.refl,S,E⟩⟩
 ·rw[av c]
  exact⟨λw e=>(by cases e),λ_=>Nat.le_of_not_lt c⟩
noncomputable def jA (i:Int):Bool:=decide (-(2 ^ 62)<=i)&&decide (i<2 ^ 62)
def Q3 {i:Int}(h:jA i=true):-(2 ^ 62)<=i/\i<2 ^ 62:=by unfold jA at h;rw[ak,ag,ag]at h;exact h
def gR (m:Ev):Ei:=λa A=>(m a A).bind λw b=>match w with|.int j=>if jA j then .ok (kZ 0 j.toNat) b else .bad|_=>.bad
def K6 (m M:Ev):Ei:=λc A=>(m c A).bind λw d=>(M c d).bind λa b=>match w,a with|.int i,.int j=>if jA i&&jA j then .ok (kZ i (j-i).toNat) b else .bad|_,_=>.bad
end
abbrev Fn:=List W->Hx->R W
def kj (K:Frag)(x:Str)(C:Value):Prop:=nsIn K mainGlobals x=some (some C)
def XE (K:Frag)(E:XK)(x:Str)(H:Hp):Prop:=∀C d,kj K x C->E C d H
inductive ZD (K:Frag)(n:Nat)(f:Fn)(vs:List V)(H:Hp)(Q:VK)(E:XK):Prop
 |mk (len:vs.length=n) (φ:b8) (A:Hx) (ws:List W) (S:zJ K φ A H) (r:zB K φ H ws vs) (q:(f ws A).post (PB K φ H Q) (EB K φ H (XE K E)))
def ZD.len {K:Frag}{f:Fn}{Q:VK}{E:XK}(h:ZD K n f vs H Q E):vs.length=n:=by cases h;assumption
inductive qv (P:Program)(w:World)(K:Frag)(mg:cn)(base:Heap)(k:Nat)(x:Str)(n:Nat)(f:Fn):Prop
 |mk (fa:Addr) (fd:FuncData) (ps:cf) (F:yu P w K mg base yY k fa fd ps (ZD K n f)) (at_:mg x=some (.ref fa)) (kp:keepIn K (.ref fa)=true) (bi:Binds K fd ps [])
noncomputable def zR (f:Fn)(a:Ea):Ev:=λb A=>(a b A).bind λw c=>f w c
section
variable {m ma:Ev}
def QN (m:Ea)(n:Nat):Prop:=∀b A w a,m b A=.ok w a->w.length=n
def zx:QN zq 0:=λ_ _ _ _ h=>by unfold zq at h;cases h;rfl
def zj {M:Ea}(h:QN M n):QN (zi ma M) (n+1):=λc A w b e=>by
 unfold zi at e;cases h1:ma c A with
 |ok x d=>
  rw[h1,zG]at e;cases h2:M c d with|ok X a=>rw[h2,zG]at e;cases e;simp[h c d X _ h2]|exc x a=>rw[h2]at e;cases e|bad=>rw[h2]at e;cases e
 |exc x d=>rw[h1]at e;cases e|bad=>rw[h1]at e;cases e
end
noncomputable def qg (n:Nat)(m:Ex):Fn:=λs A=>(m (s.map some++List.replicate (n-s.length) none) A).nox.bind λfl a=>match fl with|.rt w=>.ok w a|.nx _=>.ok .non a|_=>.bad
theorem RE.start {K:Frag}{s:List W}(h:zB K φ H s vs):RE K φ H (s.map some++List.replicate (N.length-s.length) none) (L2.start N vs):=by
 unfold L2.start;refine⟨by simp[h.length],λi w e=>?_⟩
 by_cases b:i<s.length
 ·rw[aq (by simpa using b),ar]at e
  cases hw:s[i]? with
  |none=>rw[hw]at e;cases e|some a=>
   rw[hw]at e;cases e;obtain⟨v,d,c⟩:=h.get hw;refine⟨v,?_,c⟩;rw[aq (by rw[ah,<- h.length];exact b),ar,d];rfl
 ·rw[az (by simpa using b),bF]at e
  split at e<;>cases e
section
variable {K:Frag}
theorem qv.mono {k:Nat}{f:Fn}(F:qv P w K mg base j x n f)(h:j<=k):qv P w K mg base k x n f:=by cases F with|mk d e p F a b c=>exact⟨d,e,p,F.mono h,a,b,c⟩
theorem qv.imp {k:Nat}{f g:Fn}(F:qv P w K mg base k x n f)(h:∀ws A,ws.length=n->g ws A=.bad∨f ws A=g ws A):qv P w K mg base k x n g:=by
 obtain⟨d,j,p,F,a,b,c⟩:=F;refine⟨d,j,p,F.imp λv H Q E ⟨l,i,A,ws,S,r,q⟩=>⟨l,i,A,ws,S,r,?_⟩,a,b,c⟩;rcases h ws A (by rw[r.length];exact l) with e|e
 ·rw[e]at q;exact q.elim
 ·rw[e];exact q
end
section
variable {K:Frag}
def jL {a:α}{A:Hx}:qE (R.ok a A):=λ_ _ h=>by cases h
def qP:qE (R.bad:R α):=λ_ _ h=>by cases h
def ZZ {c:Prop} [Decidable c] {a b:R α}(H:qE a)(h:qE b):qE (if c then a else b):=by split<;>assumption
noncomputable def Ql (f:Int->Int->W):W->W->Hx->R W
 |.int i,.int j,A=>.ok (f i j) A|_,_,_=>.bad
def JQ {f:Int->Int->W}:∀x y A,qE (Ql f x y A):=λx y A=>by
 unfold Ql;split
 ·exact jL
 ·exact qP
noncomputable def QS (c:Int->Int->Bool)(f:Int->Int->W):W->W->Hx->R W
 |.int i,.int j,A=>if c i j then .ok (f i j) A else .bad|_,_,_=>.bad
def Tn {c:Int->Int->Bool}{f:Int->Int->W}:∀x y A,qE (QS c f x y A):=λx y A=>by
 unfold QS;split
 ·exact ZZ jL qP
 ·exact qP
def JK {f:Int->Int->W}{g:Int->Int->V}(h:∀i j φ H,RV K φ H (f i j) (g i j)):yi K (Qk g) (Ql f):=λφ A H x y u v Q S a q p=>by
 cases u with
 |int i=>cases v with|int j=>obtain rfl:=a;obtain rfl:=q;exact⟨i,j,rfl,rfl,p φ H _ .refl S (h i j φ H)⟩|_=>exact p.elim
 |_=>exact p.elim
def UJ {c:Int->Int->Bool}{C:Int->Int->Prop}{f:Int->Int->W}{g:Int->Int->V}(d:∀i j,c i j=true->C i j)(h:∀i j φ H,RV K φ H (f i j) (g i j)):yi K (rI C g) (QS c f):=λφ A H x y u v Q S b q p=>by
 cases u with
 |int i=>cases v with
  |int j=>
   obtain rfl:=b;obtain rfl:=q;unfold QS at p;dsimp only at p
   by_cases a:c i j=true
   ·rw[aj a]at p;exact⟨i,j,rfl,rfl,d i j a,p φ H _ .refl S (h i j φ H)⟩
   ·rw[av a]at p;exact p.elim
  |_=>exact p.elim
 |_=>exact p.elim
noncomputable def JZ (i j:Int):Bool:=(decide (-(2 ^ 64)<i)&&decide (i<2 ^ 64)) || ((decide (-(2 ^ 64)<j)&&decide (j<2 ^ 64)) || (decide (i.natAbs<2 ^ 256)&&decide (j.natAbs<2 ^ 256)))
noncomputable def TY (_ j:Int):Bool:=decide (0<j)
def fi (i j:Int)(h:JZ i j=true):Wn i j:=by unfold JZ at h;simp only[ba,ak,decide_eq_true_eq]at h;exact h
def fj (i j:Int)(h:TY i j=true):(λ_ j=>0<j) i j:=by unfold TY at h;simpa using h
def QM:=Ql λi j=>.int (i-j)
def YX:=QS TY λi j=>.int (i%j)
def fk:=Ql λi j=>.int (Builtin.bitXor i j)
def WI:=Ql λi j=>.bl (decide (i<j))
def yK:=Ql λi j=>.bl (decide (i<=j))
def XO:=Ql λi j=>.bl (decide (j<=i))
noncomputable def TK (i j:Int):Bool:=decide (0<=j)&&decide (j<=1000000)&&decide (i.natAbs<2 ^ 64)
def fm (i j:Int)(h:TK i j=true):M7 i j:=by unfold TK at h;simp only[ak,decide_eq_true_eq]at h;exact⟨h.1.1,h.1.2,h.2⟩
def TZ:=QS TK λi j=>.int (i ^ j.toNat)
variable {a b c:Expr}
noncomputable def kE:W->Hx->R W
 |.int i,A=>.ok (.int (-i)) A|_,_=>.bad
structure gx (X:Cx)(op:CmpOp)(g:W->W->Hx->R W):Prop where
 ex:∃r:R2,qM X (compareOp op) r/\(∀x y A,qE (g x y A))/\yi X.K r g
 mks:∀b,op≠.In->op≠.NotIn->behindInMarks op b=false
def YO {r:R2}{g:W->W->Hx->R W}(a:qM X (compareOp op) r)(H:∀x y A,qE (g x y A))(h:yi X.K r g):gx X op g:=⟨⟨r,a,H,h⟩,λb d c=>CI b d c⟩
def Ts:gx X .Lt WI:=YO dY JQ (JK λ_ _ _ _=>rfl)
def wc:gx X .LtE yK:=YO dZ JQ (JK λ_ _ _ _=>rfl)
def TH:gx X .GtE XO:=YO d0 JQ (JK λ_ _ _ _=>rfl)
end
inductive Ty where
 |non|bl|int|str|tup|lst|dct
 deriving DecidableEq
noncomputable def Ty.nm:Ty->String
 |.non => "NoneType" | .bl => "bool" | .int => "int" | .str => "str" | .tup => "tuple" | .lst => "list" | .dct => "dict"
noncomputable def qZ (w:W)(A:Hx):Option Ty:=match w with
 |.non=>some .non|.bl _=>some .bl|.int _=>some .int|.str _=>some .str|.tup _=>some .tup|.ref n=>match A[n]? with|some (.lst _)=>some .lst|some (.dct _)=>some .dct|_=>none
 |_=>none
noncomputable def km (a b:Ty):Bool:=a==b || (a==.bl&&b==.int)
def GG {K:Frag}(a b:Ty):kitOne K (.type a.nm) (.type b.nm)=some (km a b):=by cases a<;>cases b<;>rfl
section
variable {xr:XR}{K:Frag}{a c:Expr}{es:ck}{m:Ev}
def J9 (K:Frag)(H:Hp)(x:V)(t:Ty):Prop:=Qa K H x (.type t.nm)∨∃a X,x=.ref a/\qy K H a X/\t=.tup
def OC {A:Hx}{w:W}{t:Ty}(S:zJ K φ A H)(q:RV K φ H w v)(e:qZ w A=some t):J9 K H v t:=by
 cases w with
 |non=>cases e;obtain rfl:=q;exact .inl .non|bl k=>cases e;obtain rfl:=q;exact .inl (.bl k)|clo _ _ _=>cases e|xc _=>cases e|int k=>cases e;obtain rfl:=q;exact .inl (.int k)|str k=>cases e;obtain rfl:=q;exact .inl (.str k)|tup s=>cases e;obtain⟨a,c,rfl,h,_⟩:=q;exact .inr ⟨a,c,rfl,h,rfl⟩|ref n=>
  obtain⟨a,rfl,f⟩:=q;unfold qZ at e;dsimp only at e;cases E:A[n]? with
  |none=>rw[E]at e;cases e|some o=>
   rw[E]at e;obtain⟨b,d,r⟩:=S.ob n o E;rw[f]at d;cases d;cases o with|lst s=>cases e;obtain⟨c,z,_⟩:=r;exact .inl (.lst z)|dct s=>cases e;obtain⟨c,z,_⟩:=r;exact .inl (.dK z)|tab _ _=>cases e|ro s=>cases e
def J9.kit {x:V}{t:Ty}(I:Inv X n9 σ H s)(r:RelV x u)(h:J9 X.K H x t):
  (∀{Q:cg}{E:cg}{A:Around}{c:Ty},(∀tk,Q (.bool (km t c)) { s with toks:=tk })->wpAny (model X.prog X.w) A (call (.builtin "isinstance") [u,.type c.nm]) Q E s):=by
 intro Q E A c q;rcases h with h|⟨a,xs,rfl,h,rfl⟩
 ·exact Oe I r h (GG t c) q
 ·cases (show u=Value.ref a from r)
  obtain⟨i,_,⟨o,d,b,_⟩,_⟩:=I.tuple h;exact kia_one kitx_tuple I.kIn ⟨o,d,b⟩ (GG .tup c) (λz=>nomatch z) q
def fo (K:Frag):List V->Hp->VK->Prop:=λX H Q=>∃x t c,X=[x,.ty (Ty.nm c)]/\J9 K H x t/\Q (.bl (km t c)) H
def fq:jU X (.builtin "isinstance") (fo X.K):=by
 intro p s d H e f Q I r h;obtain⟨x,t,c,rfl,b,q⟩:=h;obtain⟨u,U,rfl,ru,a⟩:=vals2 r;cases (show U=Value.type c.nm from a)
 exact b.kit I ru λT=>⟨.bl (km t c),H,I.tok T,rfl,q⟩
def wg (t:Ty)(m:Ev):Ev:=λb A=>(m b A).bind λw a=>match qZ w a with|some T=>.ok (.bl (km T t)) a|none=>.bad
def qm:W->W->Hx->R W:=λx y A=>match zK x A,y with
 |some s,.int i=>match w9 s i with|some w=>.ok w A|none=>.bad
 |_,_=>.bad
def ft:∀x y A,qE (qm x y A):=λx y A=>by
 unfold qm;split
 ·split
  ·exact jL
  ·exact qP
 ·exact qP
def C9 {s:List W}{i:Int}{w:W}(r:zB K φ H s ys)(e:w9 s i=some w):∃y,w9 ys i=some y/\RV K φ H w y:=by
 unfold w9 at e ⊢;rw[<- r.length];cases h:g9 s.length i with
 |none=>rw[h]at e;cases e|some j=>
  rw[h]at e;obtain⟨y,b,a⟩:=r.get e;exact⟨y,b,a⟩
def fv:yi K (Ly K) qm:=λd A H x y u v Q S c q p=>by
 unfold qm at p;cases es:zK u A with
 |none=>rw[es]at p;exact p.elim|some s=>
  rw[es]at p;cases v with
  |int i=>
   obtain rfl:=q;dsimp only at p;cases e:w9 s i with
   |none=>rw[e]at p;exact p.elim|some w=>
    rw[e]at p;obtain⟨a,Y,rfl,z,r⟩:=Vw S c es;obtain⟨b,f,h⟩:=C9 r e;rcases z with z|z
    ·exact .inl ⟨a,Y,i,b,rfl,rfl,z,f,p d H _ .refl S h⟩
    ·exact .inr (.inl ⟨a,Y,i,b,rfl,rfl,z,f,p d H _ .refl S h⟩)
  |non=>exact p.elim|bl _=>exact p.elim|str _=>exact p.elim|tup _=>exact p.elim|ref _=>exact p.elim|clo _ _ _=>exact p.elim|xc _=>exact p.elim
def Qf (K:Frag)(r:List V->Hp->VK->Prop)(g:List W->Hx->R W):Prop:=∀b A H a y w Q,zJ K b A H->(jd K H a y∨qy K H a y)->zB K b H w y->(g w A).post (PB K b H Q) ZE->r [.ref a] H Q
noncomputable def mQ (g:List W->Hx->R W)(q:jH):Ev:=λa A=>(q a A).bind λw b=>g w b
def mQ.read {r:List V->Hp->VK->Prop}{g:List W->Hx->R W}{q:jH}(n:∀ws A,qE (g ws A))(c:Qf X.K r g):∀σ H Q,tM X.K xr (mQ g q) σ H Q->WM r (Xp (tQ X.K xr q) TV) σ H Q:=by
 rintro σ H Q ⟨d,A,e,S,f,h⟩
 refine⟨d,A,e,S,f,qx (zW.mp h) (λws o i b j a y l s z r=>?_) λ_ _ z=>z⟩;exact c b o j a y ws Q s z r (qx (Yx (n _ _) i) (λ_ _ z=>z.mono l) λ_ _ z=>z)
def Wa {id:String}{r:List V->Hp->VK->Prop}{g:List W->Hx->R W}{q:jH}(d:jU X (.builtin id) r)(n:∀ws A,qE (g ws A))(a:Qf X.K r g)(j:X.mg x=none)(v:bootBuiltins x=some (.builtin id))(f:SQ X xr e q)(c:Gl X x:=by rfl)
  (H:x ≠ "__name__":=by decide)(b:yy x:=by decide)(i:qR e [] X:=by rfl)(h:kS og [] X:=by rfl):
  SE X xr (.Call (.Name x p) [e] [] og) (mQ g q):=PE.imp (Qs d c j v (qX f jQ i) H b i h) (mQ.read n a)
def fw {id:String}{r:List V->Hp->VK->Prop}{g:List W->Hx->R W}{q:jH}(d:jU X (.type id) r)(n:∀ws A,qE (g ws A))(a:Qf X.K r g)(j:X.mg x=none)(v:bootBuiltins x=some (.type id))(f:SQ X xr e q)(c:Gl X x:=by rfl)
  (H:x ≠ "__name__":=by decide)(b:yy x:=by decide)(i:qR e [] X:=by rfl)(h:kS og [] X:=by rfl):
  SE X xr (.Call (.Name x p) [e] [] og) (mQ g q):=PE.imp (Yv d c j v (qX f jQ i) H b i h) (mQ.read n a)
noncomputable def ja:List W->Hx->R W:=λw A=>.ok (.int w.length) A
def AL:Qf K (λxs H Q=>∃p y,xs=[.ref p]/\(jd K H p y∨qy K H p y)/\Q (.int y.length) H) ja:=λb A H a y w Q S z r p=>
 ⟨a,y,rfl,z,by rw[<- r.length];exact p b H _ .refl S rfl⟩
noncomputable def Z6:List W->Hx->R W:=λw A=>.ok (.tup w) A
def AY:Qf K (λxs H Q=>∃p y,xs=[.ref p]/\((jd K H p y/\∀l,H l=none->Q (.ref l) (upd H l (.tup y)))∨(qy K H p y/\Q (.ref p) H))) Z6:=λc A H a y w Q S z r p=>by
 refine⟨a,y,rfl,?_⟩;rcases z with z|z
 ·refine .inl ⟨z,λl h=>?_⟩
  obtain⟨e,d,b⟩:=QA S h r;exact p _ _ _ e d b
 ·exact .inr ⟨z,p c H _ .refl S ⟨a,y,rfl,z,r⟩⟩
variable {b:Expr}
def Kz {a:Addr}(I:Inv X n9 σ H s)(x:X.calm=true)(z:jd X.K H a ys∨qy X.K H a ys)
  (h:∀(c:b0)(q:Addr)(l C:b8)(S:Nat->Heap->Prop)(B:Shared),Vals ys c->ys.length<=sizeLine->Walks X.prog X.w X.A.in1 q l C c.length (λi v=>c[i]? =some v) S->S 0 B.heap->(∀b∈l,b<B.heap.objs.size)->
   (∀(d:Heap)(T:Nat),(∀b o,b∉C->B.heap.get? b=some o->d.get? b=some o)->Inv X n9 σ H { B with heap:=d,toks:=T })->Q (.ref q) B):
  wpAny (model X.prog X.w) X.A.in1 (pyIter (.ref a)) Q E s:=by
 have j:X.A.in1.handled=none:=I.ok.hd x;have keep:∀(o:Obj)(d:Heap)(T:Nat),(∀b u,b∉[s.heap.objs.size]->(s.heap.push o).get? b=some u->d.get? b=some u)->Inv X n9 σ H { s with heap:=d,toks:=T }:=λo d T k=>I.kept λb u e=>k b u (by
  intro D;have y:=by simpa using D
  exact absurd (y ▸ aG e) (aZ _)) (af _ e)
 rcases z with z|z
 ·obtain⟨c,r,p,g⟩:=I.list z
  have t:a<s.heap.objs.size:=by obtain⟨o,n,e,_⟩:=p;exact aG e
  refine wpAny_pyIter_list p.isList ?_;have W:=Walks.list (prog:=X.prog) (w:=X.w) j s.heap.objs.size a (aM t) c.toArray;simp only[List.getElem?_toArray]at W;refine h c s.heap.objs.size _ _ _ _ r g W ⟨⟨_,ay _ rfl,rfl,rfl⟩,p.isList.at λo e=>af _ e⟩ (λb f=>?_) λd T k=>keep _ d T k;rw[bj];rcases cB.mp f with e|f
  ·rw[e];exact bz _
  ·have e:=by simpa using f
   rw[e];exact bb t
 ·obtain⟨c,r,p,g⟩:=I.tuple z
  have t:=p.lt;have P:s.heap.IsTuple a c.toArray:=p;refine wpAny_pyIter_tuple P ?_;have W:=Walks.tuple (prog:=X.prog) (w:=X.w) j s.heap.objs.size a (aM t) c.toArray;simp only[List.getElem?_toArray]at W;refine h c s.heap.objs.size _ _ _ _ r g W ⟨⟨_,ay _ rfl,rfl,rfl⟩,P.at λo e=>af _ e⟩ (λb f=>?_) λd T k=>keep _ d T k;rw[bj];rcases cB.mp f with e|f
  ·rw[e];exact bz _
  ·have e:=by simpa using f
   rw[e];exact bb t
noncomputable def Ww:V->Option Bool
 |.bl b=>some b|.int i=>some (i != 0)|.non=>some false|_=>none
noncomputable def Wm:W->Option Bool
 |.bl b=>some b|.int i=>some (i != 0)|.non=>some false|_=>none
def BK {w:W}{k:Bool}(q:RV K φ H w v)(e:Wm w=some k):Ww v=some k:=by
 cases w<;>first
  |(cases e;done)
  |(obtain rfl:=q;exact e)
def Du {A:Around}{k:Bool}{Q:Bool->Shared->Prop}(r:RelV v u)(e:Ww v=some k)(h:Q k s):wpAny (model X.prog X.w) A (truthy u) Q E s:=by
 cases v with
 |bl b=>cases e;cases r;exact wpAny_truthy_bool h|int i=>
  cases e;obtain⟨t,rfl⟩:=r;exact PySem.P.truthy_int h
 |non=>cases e;cases r;exactλ_ _ _=>h|_=>cases e
def Zp:List W->Option (List Bool)
 |[]=>some []|w::ws=>match Wm w,Zp ws with|some k,some K=>some (k::K)|_,_=>none
theorem R6:∀{s:List W}{Y:List V}{f:List Bool},zB K φ H s Y->Zp s=some f->∀(i:Nat)(y:V),Y[i]? =some y->∃k,f[i]? =some k/\Ww y=some k
 |w::s,_,f,⟨v,r,d,q,t⟩,e,i,y,h=>by
  subst d;unfold Zp at e;cases E:Wm w with
  |none=>rw[E]at e;cases e|some k=>
   cases a:Zp s with
   |none=>rw[E,a]at e;cases e|some b=>
    rw[E,a]at e;cases e;cases i with|zero=>simp at h;subst h;exact⟨k,by simp,BK q E⟩|succ i=>simp at h;obtain⟨c,j,g⟩:=R6 t a i y h;exact⟨c,by simpa using j,g⟩
theorem Pe:∀{s:List W}{b:List Bool},Zp s=some b->b.length=s.length
 |[],_,e=>by cases e;rfl|w::s,b,e=>by
  unfold Zp at e;cases a:Wm w with
  |none=>rw[a]at e;cases e|some k=>
   cases E:Zp s with|none=>rw[a,E]at e;cases e|some K=>rw[a,E]at e;cases e;simp[Pe E]
def range_all (K:List Bool):(List.range K.length).all (λi=>K.getD i false)=K.all id:=by
 rw[Bool.eq_iff_iff,bh,bh]
 constructor
 ·intro h x a
  obtain⟨i,b,rfl⟩:=bf a
  have:=h i (cE.mpr b)
  rw[ae,aa b]at this;exact this
 ·intro h i b
  have H:=cE.mp b;rw[ae,aa H];exact h _ (aJ H)
def Ld (K:Frag)(f:List Bool->Bool):List V->Hp->VK->Prop:=λx H Q=>∃a Y s,x=[.ref a]/\(jd K H a Y∨qy K H a Y)/\s.length=Y.length/\(∀(i:Nat)(y:V),Y[i]? =some y->∃k,s[i]? =some k/\Ww y=some k)/\Q (.bl (f s)) H
def BU {K:List Bool}{A:Around}(r:Vals ys ot)(l:K.length=ys.length)(t:∀(i:Nat)(y:V),ys[i]? =some y->∃k,K[i]? =some k/\Ww y=some k):TruthOf X.prog X.w A (λi v=>ot[i]? =some v) λi=>K.getD i false:=by
 intro i v s Q E P H;have h:i<ys.length:=by rw[r.length];exact((cD.mp P).1)
 obtain⟨u,c,d⟩:=r.get (i:=i) (x:=ys[i]) (by simp[h])
 rw[P]at c;cases c;obtain⟨k,b,a⟩:=t i ys[i] (by simp[h])
 dsimp only at H;rw[ae,b]at H;exact Du d a H
def CC (c:X.calm=true):jU X (.builtin "all") (Ld X.K λks=>ks.all id):=by
 intro P s o H x U Q I r h;obtain⟨a,y,ks,rfl,z,l,t,q⟩:=h;obtain⟨u,rfl,ru⟩:=vals1 r;cases ru;refine call_all_walk (Kz I c z λb g f w S A v j W n p B=>?_);refine⟨g,f,w,_,_,S,λi=>ks.getD i false,rfl,W,n,BU v l t,λd T k=>?_⟩;have e:b.length=ks.length:=by rw[l,v.length]
 rw[e,range_all];exact⟨.bl _,H,B d T k,rfl,q⟩
def gC (f:List Bool->Bool):List W->Hx->R W:=λw A=>match Zp w with|some K=>.ok (.bl (f K)) A|none=>.bad
def fx {f:List Bool->Bool}:∀ws A,qE (gC f ws A):=λws A=>by
 unfold gC;split
 ·exact jL
 ·exact qP
def fy {f:List Bool->Bool}:Qf K (Ld K f) (gC f):=λb A H a y w Q S z r p=>by
 unfold gC at p;cases e:Zp w with
 |none=>rw[e]at p;exact p.elim|some s=>
  rw[e]at p;exact⟨a,y,s,rfl,z,by rw[Pe e,r.length],R6 r e,p b H _ .refl S rfl⟩
abbrev Wk:=gC λK=>K.all id
def Dz:qM X (compareOp .IsNot) (λx y H Q=>∃i j,x=.bl i/\y=.bl j/\Q (.bl (!(i==j))) H):=by intro p s b H x y v u Q I a r h;obtain⟨i,j,rfl,rfl,q⟩:=h;cases a;cases r;exact isnot_bool ⟨.bl _,H,I,rfl,q⟩
noncomputable def U4:W->Bool
 |.non=>true|_=>false
def EK {w:W}(q:RV K φ H w v):decide (v=.non)=U4 w:=by
 cases w with|non=>obtain rfl:=q;rfl|bl b=>obtain rfl:=q;rfl|clo _ _ _=>obtain⟨a,_,_,_,_,_,_,rfl,_⟩:=q;rfl|xc _=>obtain⟨a,_,_,_,rfl,_⟩:=q;rfl|int b=>obtain rfl:=q;rfl|str b=>obtain rfl:=q;rfl|tup s=>obtain⟨a,c,rfl,_⟩:=q;rfl|ref n=>obtain⟨a,rfl,_⟩:=q;rfl
def XH (n:Bool):W->W->Hx->R W:=λx y A=>match x,y with|.bl i,.bl j=>.ok (.bl (if n then !(i==j) else i==j)) A|w,.non=>.ok (.bl (if n then !U4 w else U4 w)) A|_,_=>.bad
def fB {n:Bool}:∀x y A,qE (XH n x y A):=λx y A=>by
 unfold XH;split
 ·exact jL
 ·exact jL
 ·exact qP
def Cq:yi K (λx y H Q=>(y=.non/\Q (.bl (!decide (x=.non))) H)∨∃i j,x=.bl i/\y=.bl j/\Q (.bl (!(i==j))) H) (XH true):=λb A H x y u v Q S a q p=>by
 cases v with
 |non=>
  refine .inl ⟨q,?_⟩;rw[EK a];cases u<;>exact p b H _ .refl S rfl
 |bl j=>
  cases u with|bl i=>obtain rfl:=a;obtain rfl:=q;exact .inr ⟨i,j,rfl,rfl,p b H _ .refl S rfl⟩|_=>exact p.elim
 |_=>cases u<;>exact p.elim
def O8:gx X .IsNot (XH true):=YO (d1.or Dz) fB Cq
end
noncomputable def M6 (o s:Scope):Bool:=s.kind==.function&&decide ((s.names.map (·.1)).Nodup)&&s.names.all λy=>y.2 != .free || (o.names.lookup y.1==some .cell || o.names.lookup y.1==some .free)
def cps (h:M6 X.env.scope sc=true):Zi X sc:=by
 unfold M6 at h;rw[ak,ak,ag,aL,bh]at h;refine⟨h.1.1,h.1.2,λy H e=>?_⟩
 have:=h.2 y H
 rw[e]at this;simp only[bne_self_eq_false,Bool.false_or,ba,aL]at this;exact this
section
variable {xr:XR}{K:Frag}{a b:Expr}{ma mb:Ev}
theorem zJ.lst {b:b8}{A:Hx}{H:Hp}{n:Nat}{w:List W}{v:V}(S:zJ K b A H)(q:RV K b H (.ref n) v)(e:A[n]? =some (.lst w)):∃p vs,v=.ref p/\b[n]? =some p/\H p=some (.lst vs)/\zB K b H w vs:=by obtain⟨p,rfl,d⟩:=q;obtain⟨P,c,vs,a,h⟩:=S.ob n _ e;rw[d]at c;cases c;exact⟨p,vs,rfl,d,a,h⟩
def Aw {p:Program}{A:Around}{t b:Addr}{i:b0}(a:IsTup s.heap t ([]:b0).toArray)(f:IsTup s.heap b i.toArray)(l:Q (.ref b) s):
  wpAny (model p w) A (binaryOp .Add (.ref t) (.ref b)) Q E s:=by
 obtain⟨⟨C,q,data,sl⟩,o,e,n,j⟩:=id a;obtain⟨⟨c,d,D,S⟩,h,H,N,g⟩:=id f;subst e j H g;exact concat_meets ⟨_,o,rfl⟩ ⟨_,h,rfl⟩ noFill_tuple_add seq_tuple_add slot_tuple_add entry_tuple_add (args_tuple_add_2 _ _)
   (tuple_addW0 t b ([]:b0).toArray i.toArray n N q d sl S (by simp)) ⟨o,h,l⟩
def Mp (K:Frag):R2:=λx y H Q=>∃a b Y,x=.ref a/\y=.ref b/\qy K H a []/\qy K H b Y/\Q (.ref b) H
def AG:qM X (binaryOp .Add) (Mp X.K):=by intro l s n H x y v u Q I c r h;obtain⟨a,b,Y,rfl,rfl,g,f,q⟩:=h;cases c;cases r;obtain⟨e,d,P,_⟩:=I.tuple g;obtain⟨i,j,p,_⟩:=I.tuple f;cases d;exact Aw P p ⟨.ref b,H,I,rfl,q⟩
def qw:W->W->Hx->R W:=λx y A=>match x,y with
 |.int i,.int j=>.ok (.int (i+j)) A|.tup X,.tup Y=>if X.length+Y.length<=zM then .ok (.tup (X++Y)) A else .bad|.ref n,.ref k=>match A[n]?,A[k]? with|some (.lst X),some (.lst Y)=>if X.length+Y.length<=zM then .ok (.ref A.length) (A++[.lst (X++Y)]) else .bad|_,_=>.bad
 |_,_=>.bad
def fC:∀x y A,qE (qw x y A):=λx y A=>by
 unfold qw
 split
 ·exact jL
 ·exact ZZ jL qP
 ·split
  ·exact ZZ jL qP
  ·exact qP
 ·exact qP
def Qp (h:n<=zM):n<=sizeLine:=by
 have:sizeLine=16777216:=sizeLine_eq
 unfold zM at h;lia
def fD:yi K (λx y H Q=>Qk (λi j=>.int (i+j)) x y H Q∨Mx K x y H Q∨Mp K x y H Q∨Lf x y H Q) qw:=λJ A H x y u v Q S f q p=>by
 cases u with
 |int i=>cases v with|int j=>obtain rfl:=f;obtain rfl:=q;exact .inl ⟨i,j,rfl,rfl,p J H _ .refl S rfl⟩|_=>exact p.elim
 |tup X=>cases v with
  |tup Y=>
   obtain⟨M,b,rfl,T,c⟩:=f;obtain⟨L,a,rfl,t,r⟩:=q;unfold qw at p;dsimp only at p
   by_cases h:X.length+Y.length<=zM
   ·rw[aj h]at p
    by_cases z:b=[]
    ·subst z
     have o:=by
      have:=c.length
      simpa using this
     subst o;exact .inr (.inr (.inl ⟨M,L,a,rfl,rfl,T,t,p J H _ .refl S ⟨L,a,rfl,t,r⟩⟩))
    ·refine .inr (.inl ⟨M,L,b,a,rfl,rfl,T,t,z,by rw[<- c.length,<- r.length];exact Qp h,λe=>?_,λne l g=>?_⟩)
     ·subst e
      have o:=by
       have:=r.length
       simpa using this
      subst o;rw[bq]at p;exact p J H _ .refl S ⟨M,b,rfl,T,c⟩
     ·obtain⟨w,s,B⟩:=QA S g (c.append r)
      exact p _ _ _ w s B
   ·rw[av h]at p;exact p.elim
  |_=>exact p.elim
 |ref n=>cases v with
  |ref k=>
   unfold qw at p;dsimp only at p;cases E:A[n]? with
   |none=>rw[E]at p;exact p.elim|some I=>cases I with
    |lst X=>
     cases d:A[k]? with
     |none=>rw[E,d]at p;exact p.elim|some D=>cases D with
      |lst Y=>
       rw[E,d]at p;dsimp only at p;obtain⟨C,U,rfl,f1,g1,c⟩:=S.lst f E;obtain⟨P,N,rfl,f2,Z,r⟩:=S.lst q d
       by_cases h:X.length+Y.length<=zM
       ·rw[aj h]at p
        refine .inr (.inr (.inr ⟨C,P,U,N,rfl,rfl,g1,Z,by rw[<- c.length,<- r.length];exact Qp h,λl g=>?_⟩))
        obtain⟨w,s,B⟩:=Je S g (c.append r);exact p _ _ _ w s B
       ·rw[av h]at p;exact p.elim
      |_=>rw[E,d]at p;exact p.elim
    |_=>rw[E]at p;exact p.elim
  |_=>exact p.elim
 |_=>cases v<;>exact p.elim
def jE:W->W->Hx->R W:=λx y A=>match x,y with
 |.int i,.int j=>if JZ i j then .ok (.int (i * j)) A else .bad|.ref n,.int k=>match A[n]? with|some (.lst xs)=>if jA k&&decide (xs.length * k.toNat<=zM) then .ok (.ref A.length) (A++[.lst (List.replicate k.toNat xs).flatten]) else .bad|_=>.bad
 |_,_=>.bad
def fF:∀x y A,qE (jE x y A):=λx y A=>by
 unfold jE
 split
 ·exact ZZ jL qP
 ·split
  ·exact ZZ jL qP
  ·exact qP
 ·exact qP
theorem zB.rep {w:List W}(r:zB K φ H w vs):∀n:Nat,zB K φ H (List.replicate n w).flatten (List.replicate n vs).flatten
 |0=>.nil|n+1=>by rw[bK,bK,a3,a3];exact r.append (zB.rep r n)
def fG:yi K (λx y H Q=>rI Wn (λi j=>.int (i * j)) x y H Q∨Lr x y H Q) jE:=λs A H x y u v Q S a q p=>by
 cases v with
 |int j=>cases u with
  |int i=>
   obtain rfl:=a;obtain rfl:=q;unfold jE at p;dsimp only at p
   by_cases c:JZ i j=true
   ·rw[aj c]at p;exact .inl ⟨i,j,rfl,rfl,fi i j c,p s H _ .refl S rfl⟩
   ·rw[av c]at p;exact p.elim
  |ref n=>
   obtain rfl:=q;unfold jE at p;dsimp only at p;cases e:A[n]? with
   |none=>rw[e]at p;exact p.elim|some o=>cases o with
    |lst X=>
     rw[e]at p;dsimp only at p;obtain⟨P,t,rfl,z,w,r⟩:=S.lst a e
     by_cases h:(jA j&&decide (X.length * j.toNat<=zM))=true
     ·rw[aj h]at p
      rw[ak,ag]at h;obtain⟨g,B⟩:=Q3 h.1;refine .inr ⟨P,j,t,rfl,rfl,w,by lia,by lia,by rw[<- r.length];exact Qp h.2,λl b=>?_⟩
      obtain⟨f,d,C⟩:=Je S b (r.rep j.toNat);exact p _ _ _ f d C
     ·rw[av h]at p;exact p.elim
    |_=>rw[e]at p;exact p.elim
  |_=>exact p.elim
 |_=>cases u<;>exact p.elim
def Qv:W->W->Hx->R W:=λx y A=>match x with
 |.ref n=>match A[n]? with|some (.lst ws)=>if ws.length<zM then .ok .non (A.set n (.lst (ws++[y]))) else .bad|_=>.bad
 |_=>.bad
noncomputable def WK (x:W)(A:Hx):Bool:=match x with
 |.ref n=>match A[n]? with|some (.lst _)=>true|_=>false
 |_=>false
def C4 {A:Hx}{w:W}(S:zJ K φ A H)(q:RV K φ H w v)(e:WK w A=true):X1 K "list" v H:=by
 unfold WK at e;cases w with
 |ref n=>
  dsimp only at e;cases E:A[n]? with
  |none=>rw[E]at e;cases e|some o=>cases o with|lst s=>obtain⟨p,a,rfl,_,h,_⟩:=S.lst q E;exact .inl ⟨rfl,_,jd.of h⟩|_=>rw[E]at e;cases e
 |_=>cases e
def Zt (g:W->W->Hx->R W)(a b:Ev):Ev:=λd A=>(a d A).bind λx e=>if WK x e then(b d e).bind λy c=>g x y c else .bad
def Tb {nm:Str}{id:String}{r:V->List V->Hp->VK->Prop}{g:W->W->Hx->R W}(I:Slot "list" nm id)(i:typeOf (.builtin id)=pure (.type "method_descriptor"))(U:WB X id r)(T:∀x y A,qE (g x y A))
  (B:∀φ A H x y u v Q,zJ X.K φ A H->RV X.K φ H u x->RV X.K φ H v y->(g u v A).post (PB X.K φ H Q) ZE->r x [y] H Q)(t:SE X xr a ma)(Y:SE X xr b mb)
  (s:qR b [] X)(c:attributeBase a nm X.env (eval a X.env)=eval a X.env)
  (d:((backTo oh (starEach [b] X.env)).all (λx=>!x.1)&&(backToKw oh (keywordEach [] X.env)).all (λx=>x.1.isSome)
   && decide ([b].length+([]:cw).length+(if ([]:cw).isEmpty then 0 else 1)<30))=true)(e:(oz.endLine==oh.line)=true):
  SE X xr (.Call (.Attribute a nm oz) [b] [] oh) (Zt g ma mb):=
 PE.imp (Mz PySem.F.plainAttrs_list I i U t (qX Y jQ s) c d e s (by rfl)) λσ H Q ⟨φ,A,ρ,S,N,h⟩=>by
  refine tM.go S N (zW.mp h) λw A1 n H1 v J M j q=>?_
  by_cases l:WK w A1=true
  ·rw[aj l]at J
   refine⟨C4 j q l,?_⟩;refine tM.go j (N.mono M) (qx (zW.mp J) (λ_ _ z=>z) λ_ _ z=>z.mono M) λo E f D P Z L C p=>?_;exact B f E D v P w o Q C (q.mono L) p (qx (Yx (T _ _ _) Z) (λ_ _ z=>z.mono (M.trans L)) λ_ _ z=>z)
  ·rw[av l]at J;exact J.elim
def Ct:∀x y A,qE (Qv x y A):=λx y A=>by
 unfold Qv
 split
 ·split
  ·exact ZZ jL qP
  ·exact qP
 ·exact qP
def Jd:W->W->Hx->R W:=λx y A=>match x,y with
 |.ref n,.int i=>match A[n]? with
  |some (.lst ws)=>match (if jA i then seqIndex? i ws.length else none) with
   |some k=>match ws[k]? with|some w=>.ok w (A.set n (.lst (ws.eraseIdx k)))|none=>.bad
   |none=>.bad
  |_=>.bad
 |_,_=>.bad
def Bn:∀x y A,qE (Jd x y A):=λx y A=>by
 unfold Jd
 split
 ·split
  ·split
   ·split
    ·exact jL
    ·exact qP
   ·exact qP
  ·exact qP
 ·exact qP
def Zw:W->W->W->Hx->R Unit:=λo i v A=>match o,i with
 |.ref n,.int k=>match A[n]? with
  |some (.lst ws)=>match g9 ws.length k with|some j=>.ok () (A.set n (.lst (ws.set j v)))|none=>.bad
  |_=>.bad
 |_,_=>.bad
def NM:∀o i v A,qE (Zw o i v A):=λo i v A=>by
 unfold Zw
 split
 ·split
  ·split
   ·exact jL
   ·exact qP
  ·exact qP
 ·exact qP
def OX:MC K Ms Zw:=λs A H o i v a w y Q S f d q p=>by
 unfold Zw at p;cases a with
 |ref n=>cases w with
  |int k=>
   obtain rfl:=d;dsimp only at p;cases e:A[n]? with
   |none=>rw[e]at p;exact p.elim|some g=>cases g with
    |lst t=>
     rw[e]at p;dsimp only at p;cases E:g9 t.length k with
     |none=>rw[E]at p;exact p.elim|some j=>
      rw[E]at p;obtain⟨l,u,rfl,x,h,r⟩:=S.lst f e;have L:Le K s H s (upd H l (.lst (u.set j v))):=Le.upd x (λX z=>by rw[h]at z;cases z) (λ_ _ z=>by rw[h]at z;cases z)
      obtain⟨c,b⟩:=S.write (o':=.lst (t.set j y)) e rfl rfl x ⟨_,jD,(r.mono L).set (q.mono L) j⟩;exact⟨l,u,k,j,rfl,rfl,h,by rw[<- r.length];exact E,p _ _ c b⟩
    |_=>rw[e]at p;exact p.elim
  |_=>exact p.elim
 |_=>cases w<;>exact p.elim
variable {es:ck}{m:Ev}
def fH {id:String}{r:List V->Hp->VK->Prop}{g:W->Hx->R W}(i:jU X (.builtin id) r)(q:∀w A,qE (g w A))(f:XU X.K (λv=>r [v]) g)(s:X.mg x=none)(d:bootBuiltins x=some (.builtin id))(j:SE X xr e m)(b:Gl X x:=by rfl)
  (a:x ≠ "__name__":=by decide)(c:yy x:=by decide)(n:qR e [] X:=by rfl)(l:kS og [] X:=by rfl):
  SE X xr (.Call (.Name x p) [e] [] og) (jN g m):=PE.imp (Qs i b s d (qX j jQ n) a c n l) λo H Q h=>jN.read q f o H Q h
def fI {id:String}{r:List V->Hp->VK->Prop}{g:W->Hx->R W}(i:jU X (.type id) r)(q:∀w A,qE (g w A))(f:XU X.K (λv=>r [v]) g)(s:X.mg x=none)(d:bootBuiltins x=some (.type id))(j:SE X xr e m)(b:Gl X x:=by rfl)
  (a:x ≠ "__name__":=by decide)(c:yy x:=by decide)(n:qR e [] X:=by rfl)(l:kS og [] X:=by rfl):
  SE X xr (.Call (.Name x p) [e] [] og) (jN g m):=PE.imp (Yv i b s d (qX j jQ n) a c n l) λo H Q h=>jN.read q f o H Q h
def Tf {id:String}{r:List V->Hp->VK->Prop}{g:W->W->Hx->R W}(o:jU X (.builtin id) r)(y:∀w f A,qE (g w f A))(n:yi X.K (λv i=>r [v,i]) g)(z:X.mg x=none)(j:bootBuiltins x=some (.builtin id))(s:SE X xr a ma)(q:SE X xr b mb)(d:Gl X x)
  (c:x ≠ "__name__")(e:yy x)(t:qR a [b] X)(B:qR b [] X)(l:kS og [b] X):
  SE X xr (.Call (.Name x p) [a,b] [] og) (zr g ma mb):=PE.imp (Qs o d z j (qX s (qX q jQ B) t) c e t l) λu H Q h=>zr.read y n u H Q h
noncomputable def Lb:W->Hx->R W
 |.int i,A=>.ok (.int (if i<0 then -i else i)) A|_,_=>.bad
noncomputable def Ll:W->Hx->R W
 |.int i,A=>.ok (.int i) A|.bl k,A=>.ok (.int (if k then 1 else 0)) A|_,_=>.bad
def U3:=Ql λi j=>.int (if j > i then j else i)
def U8:=Ql λi j=>.int (if j<i then j else i)
noncomputable def ym:W->Bool
 |.tup _=>false|.ref _=>false|.clo _ _ _=>false|.xc _=>false|_=>true
noncomputable def QP:W->W->Bool
 |.non,.non=>true|.bl a,.bl b=>a==b|.bl a,.int b=>(if a then 1 else 0)==b|.int a,.bl b=>a==(if b then 1 else 0)|.int a,.int b=>a==b|.str a,.str b=>a==b|_,_=>false
def Ya (x:W)(X:List W):Bool:=X.any λy=>QP y x
def Kq {w:W}(q:RV K φ H w v)(e:ym w=true):wB v=true:=by
 cases w<;>first
  |(cases e;done)
  |(obtain rfl:=q;rfl)
def VG {w a:W}{b:V}(q:RV K φ H w v)(Q:RV K φ H a b)(e:ym w=true)(E:ym a=true):wH v b=QP w a:=by
 cases w<;>cases a<;>first
  |(cases e;done)
  |(cases E;done)
  |(obtain rfl:=q;obtain rfl:=Q;rfl)
theorem Ot {x:W}(q:RV K φ H x v)(e:ym x=true):∀{X:List W}{s:List V},zB K φ H X s->X.all ym=true->s.all wB=true/\XX v s=Ya x X
 |[],_,r,_=>by cases r;exact⟨rfl,rfl⟩|w::ws,_,⟨y,r,E,h,t⟩,h2=>by
  subst E;rw[List.all_cons,ak]at h2;obtain⟨I,i⟩:=Ot q e t h2.2;refine⟨by rw[List.all_cons,Kq h h2.1,I];rfl,?_⟩
  unfold XX Ya at i ⊢;rw[any_cons,any_cons,i,VG h q h2.1 e]
def QI (n:Bool):W->W->Hx->R W:=λx y A=>match zK y A with|some w=>if ym x&&w.all ym then .ok (.bl (if n then !Ya x w else Ya x w)) A else .bad|none=>.bad
abbrev LP:=QI false
abbrev G8:=QI true
def Nz {n:Bool}:∀x y A,qE (QI n x y A):=λx y A=>by
 unfold QI
 split
 ·exact ZZ jL qP
 ·exact qP
def NW {n:Bool}:yi K (Se K n) (QI n):=λc A H x y u v Q S q b p=>by
 unfold QI at p;cases es:zK v A with
 |none=>rw[es]at p;exact p.elim|some w=>
  rw[es]at p;dsimp only at p
  by_cases h:(ym u&&w.all ym)=true
  ·rw[aj h]at p
   rw[ak]at h;obtain⟨a,Y,rfl,z,r⟩:=Vw S b es;obtain⟨I,i⟩:=Ot q h.1 r h.2;exact⟨a,Y,rfl,z,Kq q h.1,I,by rw[i];exact p c H _ .refl S rfl⟩
  ·rw[av h]at p;exact p.elim
structure Xt (X:Cx)(op:CmpOp)(g:W->W->Hx->R W):Prop where
 ex:∃r:R2,qM X (compareOp op) r/\(∀x y A,qE (g x y A))/\yi X.K r g
def Lq:Xt X .In LP:=⟨_,DC,Nz,NW⟩
def fJ:Xt X .NotIn G8:=⟨_,Fi,Nz,NW⟩
end
noncomputable def jM (f:W->Option PyData):List W->Option (List PyData)
 |[]=>some []|w::ws=>match f w,jM f ws with|some d,some ds=>some (d::ds)|_,_=>none
def qk (A:Hx):Nat->W->Option PyData
 |_,.non=>some .none|_,.bl b=>some (.bool b)|_,.int i=>some (.int i)|_,.str x=>if PyData.strOk x then some (.str x) else none|_,.clo _ _ _=>none|_,.xc _=>none|0,.tup _=>none|0,.ref _=>none|n+1,.tup ws=>(jM (qk A n) ws).map .tuple|n+1,.ref k=>match zK (.ref k) A with|some ws=>(jM (qk A n) ws).map .list|none=>none
def CT {K:Frag}{A:Hx}{u:List W}(S:zJ K φ A H)(q:RV K φ H (.ref n) v)(e:zK (.ref n) A=some u):∃a y,v=.ref a/\jd K H a y/\zB K φ H u y:=by
 obtain⟨a,rfl,c⟩:=q;unfold zK at e;dsimp only at e;cases E:A[n]? with
 |none=>rw[E]at e;cases e|some o=>
  rw[E]at e;obtain⟨d,b,r⟩:=S.ob n o E;rw[c]at b;cases b;cases o with|lst x=>cases e;obtain⟨y,f,h⟩:=r;exact⟨a,y,rfl,jd.of f,h⟩|ro x=>cases e;obtain⟨y,f,h⟩:=r;exact⟨a,y,rfl,f.sq,h⟩|dct x=>cases e|tab _ _=>cases e
section
variable {a:Expr}
theorem VI {K:Frag}{f:W->Option PyData}(l:∀w v u d,RV K φ H w v->RelV v u->f w=some d->∃A,Reads h u d A):
  ∀{s:List W}{j:List V}{U:b0}{ds:List PyData},zB K φ H s j->Vals j U->jM f s=some ds->∃A,ReadsAll h U ds A
 |[],_,_,_,r,a,e=>by cases r;cases a;cases e;exact⟨[],.nil⟩|w::s,_,_,ds,⟨v,r,i,q,t⟩,a,e=>by
  subst i;cases a with
  |cons g c=>
   unfold jM at e;cases E:f w with
   |none=>rw[E]at e;cases e|some d=>
    cases b:jM f s with
    |none=>rw[E,b]at e;cases e|some D=>
     rw[E,b]at e;cases e;obtain⟨A,o⟩:=l w v _ d q g E;obtain⟨bs,n⟩:=VI l t c b;exact⟨_,.cons o n⟩
def YE {A:Hx}(I:Inv X n9 σ H s)(S:zJ X.K φ A H):∀(n:Nat)(w:W)(v:V)(u:Value)(d:PyData),RV X.K φ H w v->RelV v u->qk A n w=some d->∃C,Reads s.heap u d C:=by
 intro n
 induction n with
 |zero=>
  intro w v u d q r e;cases w with
  |non=>obtain rfl:=q;cases r;cases e;exact⟨_,.none⟩|bl k=>obtain rfl:=q;cases r;cases e;exact⟨_,.bool k⟩|int k=>obtain rfl:=q;obtain⟨t,rfl⟩:=r;cases e;exact⟨_,.int k t⟩|str k=>
   obtain rfl:=q;obtain⟨t,rfl⟩:=r;unfold qk at e
   split at e
   ·cases e;exact⟨_,.str k t⟩
   ·cases e
  |tup _=>cases e|ref _=>cases e|clo _ _ _=>unfold qk at e;cases e|xc _=>unfold qk at e;cases e
 |succ n l=>
  intro w v u d q r e;cases w with
  |non=>obtain rfl:=q;cases r;cases e;exact⟨_,.none⟩|bl k=>obtain rfl:=q;cases r;cases e;exact⟨_,.bool k⟩|clo _ _ _=>unfold qk at e;cases e|xc _=>unfold qk at e;cases e|int k=>obtain rfl:=q;obtain⟨t,rfl⟩:=r;cases e;exact⟨_,.int k t⟩|str k=>
   obtain rfl:=q;obtain⟨t,rfl⟩:=r;unfold qk at e
   split at e
   ·cases e;exact⟨_,.str k t⟩
   ·cases e
  |tup x=>
   obtain⟨a,D,rfl,h,c⟩:=q;cases r;unfold qk at e;cases E:jM (qk A n) x with
   |none=>rw[E]at e;cases e|some ds=>
    rw[E]at e;cases e;obtain⟨i,b,⟨o,B,z,k,g⟩,_⟩:=I.tuple h;obtain⟨C,f⟩:=VI l c b E;exact⟨_,.tuple B z g (by simpa using f)⟩
  |ref k=>
   unfold qk at e;cases E:zK (.ref k) A with
   |none=>rw[E]at e;cases e|some x=>
    rw[E]at e;dsimp only at e;obtain⟨a,y,rfl,h,c⟩:=CT S q E;cases r;cases j:jM (qk A n) x with
    |none=>rw[j]at e;cases e|some ds=>
     rw[j]at e;cases e;obtain⟨i,b,⟨o,p,B,z,_,g⟩,_⟩:=I.list h;obtain⟨C,f⟩:=VI l c b j;exact⟨_,.list B z g (by simpa using f)⟩
def Gr {A:Hx}:∀(n:Nat)(w:W)(d:PyData),qk A n w=some d->d.canLay0=true/\d.depth<=n:=by
 intro n;have lst:∀{n:Nat},(∀(w:W)(d:PyData),qk A n w=some d->d.canLay0=true/\d.depth<=n)->∀(ws:List W)(ds:List PyData),jM (qk A n) ws=some ds->PyData.canLayAll0 ds=true/\PyData.depthAll ds<=n:=by
  intro n i ws
  induction ws with
  |nil=>intro ds e;cases e;exact⟨by simp[PyData.canLayAll0],by simp[PyData.depthAll]⟩|cons w ws I=>
   intro ds e;unfold jM at e;cases E:qk A n w with
   |none=>rw[E]at e;cases e|some d=>
    cases b:jM (qk A n) ws with
    |none=>rw[E,b]at e;cases e|some D=>
     rw[E,b]at e;cases e;obtain⟨f,g⟩:=i w d E;obtain⟨H,c⟩:=I D b;refine⟨by simp[PyData.canLayAll0,f,H],?_⟩
     simp only[PyData.depthAll];lia
 induction n with
 |zero=>
  intro w d e;cases w with
  |tup _=>cases e|ref _=>cases e|clo _ _ _=>unfold qk at e;cases e|xc _=>unfold qk at e;cases e|str x=>
   unfold qk at e
   split at e
   ·rename_i h;cases e;exact⟨by simp[PyData.canLay0,h],by simp[PyData.depth]⟩
   ·cases e
  |_=>cases e;exact⟨by simp[PyData.canLay0],by simp[PyData.depth]⟩
 |succ n i=>
  intro w d e;cases w with
  |clo _ _ _=>unfold qk at e;cases e|xc _=>unfold qk at e;cases e|tup ws=>
   unfold qk at e;cases a:jM (qk A n) ws with
   |none=>rw[a]at e;cases e|some ds=>
    rw[a]at e;cases e;obtain⟨f,g⟩:=lst i ws ds a;refine⟨by simp[PyData.canLay0,f],?_⟩
    simp only[PyData.depth];lia
  |ref k=>
   unfold qk at e;cases a:zK (.ref k) A with
   |none=>rw[a]at e;cases e|some ws=>
    rw[a]at e;dsimp only at e;cases E:jM (qk A n) ws with
    |none=>rw[E]at e;cases e|some ds=>
     rw[E]at e;cases e;obtain⟨f,g⟩:=lst i ws ds E;refine⟨by simp[PyData.canLay0,f],?_⟩
     simp only[PyData.depth];lia
  |str x=>
   unfold qk at e
   split at e
   ·rename_i h;cases e;exact⟨by simp[PyData.canLay0,h],by simp[PyData.depth]⟩
   ·cases e
  |_=>cases e;exact⟨by simp[PyData.canLay0],by simp[PyData.depth]⟩
def yU (n:Bool):W->W->Hx->R W:=λx y A=>match qk A 8 x,qk A 8 y with|some d,some D=>.ok (.bl (if n then !PyData.eqv d D else PyData.eqv d D)) A|_,_=>.bad
abbrev kH:=yU false
abbrev jB:=yU true
def Mh {n:Bool}:∀x y A,qE (yU n x y A):=λx y A=>by
 unfold yU
 split
 ·exact jL
 ·exact qP
def Tt (K:Frag)(n:Bool):R2:=λx y H Q=>∃a A u v d D,zJ K a A H/\RV K a H u x/\RV K a H v y/\qk A 8 u=some d/\qk A 8 v=some D/\Q (.bl (if n then !PyData.eqv d D else PyData.eqv d D)) H
def G1 {A:Hx}{w:W}{d:PyData}(h:qk A 8 w=some d):SeqAt.shaped d=true:=by obtain⟨H,a⟩:=Gr 8 w d h;unfold SeqAt.shaped;rw[H,Bool.true_and,ag];lia
def fK (g:X.A.units+64<cLine):qM X (compareOp .Eq) (Tt X.K false):=by intro p s n H x y v u Q I b r h;obtain⟨l,A,a,w,d,D,S,f,c,E,e,q⟩:=h;obtain⟨o,j⟩:=YE I S 8 a x v d f b E;obtain⟨bs,i⟩:=YE I S 8 w y u D c r e;exact eq_dataH j i (G1 E) (G1 e) g ⟨.bl _,H,I,rfl,q⟩
def fL (g:X.A.units+64<cLine):qM X (compareOp .NotEq) (Tt X.K true):=by intro p s n H x y v u Q I b r h;obtain⟨l,A,a,w,d,D,S,f,c,E,e,q⟩:=h;obtain⟨o,j⟩:=YE I S 8 a x v d f b E;obtain⟨bs,i⟩:=YE I S 8 w y u D c r e;exact ne_dataH j i (G1 E) (G1 e) g ⟨.bl _,H,I,rfl,q⟩
def OO {K:Frag}{n:Bool}:yi K (Tt K n) (yU n):=λb A H x y u v Q S a q p=>by
 unfold yU at p;cases e:qk A 8 u with
 |none=>rw[e]at p;exact p.elim|some d=>
  cases E:qk A 8 v with
  |none=>rw[e,E]at p;exact p.elim|some D=>
   rw[e,E]at p;exact⟨b,A,u,v,d,D,S,a,q,e,E,p b H _ .refl S rfl⟩
def yr {k:Nat}(h:jb k X.A):gx X .Eq kH:=YO (fK h.units) Mh OO
def yH {k:Nat}(h:jb k X.A):gx X .NotEq jB:=YO (fL h.units) Mh OO
end
mutual
noncomputable def W.nr:W->Bool
 |.tup w=>qW w|.ref _=>false|.clo _ w _=>qW w|_=>true
noncomputable def qW:List W->Bool
 |[]=>true|w::ws=>w.nr&&qW ws
end
def iso (f:Fn):Fn:=λu A=>if qW u then(match f u [] with
 |.ok w a=>(match w with
  |.ref n=>(match a[n]? with|some (.lst ws)=>if qW ws then .ok (.ref A.length) (A++[.lst ws]) else .bad|some (.dct oo)=>if qW (oo.map (·.2)) then .ok (.ref A.length) (A++[.dct oo]) else .bad|_=>.bad)
  |w=>if w.nr then .ok w A else .bad)
 |_=>.bad) else .bad
def Qb (f:Fn):Fn:=λu A=>match u with
 |.ref n::u=>(match A[n]? with
  |some (.lst ws)=>if qW ws&&qW u then(match f (.ref 0::u) [.lst ws] with
   |.ok w b=>(match (List.head? b:Option O) with|some (.lst a)=>if qW a&&w.nr then .ok w (A.set n (.lst a)) else .bad|_=>.bad)
   |_=>.bad) else .bad
  |_=>.bad)
 |_=>.bad
section
variable {K:Frag}{ox o5:b8}{H' H1:Hp}{A A1:Hx}
mutual
theorem RV.nrm (T:∀a vs,qy K H a vs->qy K H' a vs)(z:∀a o u,H a=some (.frz o u)->H' a=some (.frz o u)):∀{w:W}{v:V},w.nr=true->RV K φ H w v->RV K ox H' w v
 |.non,_,_,h=>h|.bl _,_,_,h=>h|.int _,_,_,h=>h|.str _,_,_,h=>h|.tup s,_,n,⟨a,vs,e,t,r⟩=>⟨a,vs,e,T _ _ t,zB.nrm T z n r⟩|.ref _,_,n,_=>nomatch n
 |.clo _ s P,_,n,⟨a,ob,u,c,d,U,vs,e,i,g,f,r⟩=>⟨a,ob,u,c,d,U,vs,e,z _ _ _ i,z _ _ _ g,f,zB.nrm T z n r⟩|.xc _,_,_,⟨a,b,u,C,e,i,g⟩=>⟨a,b,u,C,e,z _ _ _ i,g⟩
theorem zB.nrm (T:∀a b,qy K H a b->qy K H' a b)(f:∀a o u,H a=some (.frz o u)->H' a=some (.frz o u)):∀{s:List W}{b:List V},qW s=true->zB K φ H s b->zB K ox H' s b
 |[],_,_,h=>h|w::s,_,n,⟨v,r,e,h,t⟩=>by have N:(w.nr&&qW s)=true:=n;rw[ak]at N;exact⟨v,r,e,RV.nrm T f N.1 h,zB.nrm T f N.2 t⟩
end
def zJ.none:zJ K [] [] H:=⟨rfl,λi j a o b _ _ h=>by simp at h,λn o h=>by simp at h⟩
def zJ.frame (S:zJ K φ A H)(k:∀a o,H a=some o->H1 a=some o)(l:Le K φ H φ H1):zJ K φ A H1:=
 ⟨S.len,S.inj,λn o e=>let ⟨a,b,q⟩:=S.ob n o e;⟨a,b,q.keep l λu h=>k a u h⟩⟩
def Le.apart (l:Le K [] H o5 H1):Le K φ H φ H1/\∀a o,H a=some o->H1 a=some o:=
 have k:=λa o h=>l.fr a o h λn e=>by simp at e
 ⟨⟨λ_ _ h=>h,l.tp,λa o h _=>k a o h,λ_ _ h=>.inl h,l.st,l.fz⟩,k⟩
def zJ.trackN {u:HO}{o:O}(S:zJ K φ A H)(v:H D=some u)(n:∀(k:Nat)(q:O),φ[k]? =some D->A[k]? =some q->q.mut=false)(new:OR K (φ++[D]) H D o):zJ K (φ++[D]) (A++[o]) H:=by
 have l:QW K φ H (φ++[D]) H:=⟨λn a h=>by
  have:=(cD.mp h).1
  rw[aq this];exact h,λ_ _ h=>h,λ_ _ _ h=>h⟩
 have w:∀(i:Nat) a,(φ++[D])[i]? =some a->i<A.length->φ[i]? =some a:=λi a e y=>by rw[aq (by rw[S.len];exact y)]at e;exact e
 have L:∀a,(φ++[D])[A.length]? =some a->a=D:=λa e=>by
  rw[az (by rw[S.len];exact ax _),S.len]at e
  simpa using e.symm
 refine⟨by simp[S.len],λi j a t s C B d b N M=>?_,λk J e=>?_⟩
 ·by_cases y:i<A.length
  ·rw[aq y]at d
   by_cases c:j<A.length
   ·rw[aq c]at b
    exact S.inj i j a t s (w i a C y) (w j a B c) d b N M
   ·exfalso
    have g:j=A.length:=by have:=(cD.mp b).1;simp at this;lia
    subst g;have z:=n i t (by rw[<- L a B];exact w i a C y) d
    rw[N]at z;cases z
  ·have p:i=A.length:=by have:=(cD.mp d).1;simp at this;lia
   by_cases c:j<A.length
   ·exfalso
    rw[aq c]at b;subst p;have z:=n j s (by rw[<- L a C];exact w j a B c) b
    rw[M]at z;cases z
   ·have:=(cD.mp b).1;simp at this;lia
 ·by_cases P:k<A.length
  ·rw[aq P]at e
   obtain⟨a,E,q⟩:=S.ob k J e;refine⟨a,l.ex _ _ E,?_⟩;cases J with|lst I=>obtain⟨x,z,r⟩:=q;exact⟨x,z,r.monoW l⟩|dct I=>obtain⟨x,z,Z,r⟩:=q;exact⟨x,z,Z,r.monoW l⟩|tab _ _=>exact q|ro I=>obtain⟨x,z,r⟩:=q;exact⟨x,z,r.monoW l⟩
  ·have f:k=A.length:=by have:=(cD.mp e).1;simp at this;lia
   subst f;simp at e;subst e;exact⟨D,by rw[az (by rw[S.len];exact ax _),S.len];simp,new⟩
def zJ.adopt {o:O}(S:zJ K φ A H)(l:Le K [] H o5 H1)(j:o5[n]? =some a)(m:∃u,H1 a=some u)(new:OR K (φ++[a]) H1 a o):
  Le K φ H (φ++[a]) H1/\zJ K (φ++[a]) (A++[o]) H1/\RV K (φ++[a]) H1 (.ref A.length) (.ref a):=by
 obtain⟨la,k⟩:=l.apart;have i:H a=Option.none:=by
  rcases l.nw n a j with e|e
  ·simp at e
  ·exact e
 obtain⟨u,b⟩:=m;refine⟨la.YY i,(S.frame k la).trackN b (λk q f d=>?_) new,a,rfl,by rw[<- S.len];simp⟩
 cases c:q.mut with
 |false=>rfl|true=>
  obtain⟨g,E,r⟩:=S.ob k q d;rw[f]at E;cases E;obtain⟨z,h,_⟩:=r.there c;rw[i]at h;cases h
def OR.nrL {w:List W}(h:OR K φ H a (.lst w))(n:qW w=true):OR K ox H a (.lst w):=let ⟨v,e,r⟩:=h;⟨v,e,r.nrm (λ_ _ t=>t) (λ_ _ _ t=>t) n⟩
def OR.nrD {s:List (Key×W)}(h:OR K φ H a (.dct s))(n:qW (s.map (·.2))=true):OR K ox H a (.dct s):=let ⟨v,e,E,r⟩:=h;⟨v,e,E,r.nrm (λ_ _ t=>t) (λ_ _ _ t=>t) n⟩
theorem qv.iso {k:Nat}{f:Fn}(F:qv P w K mg base k x n f):qv P w K mg base k x n (iso f):=by
 obtain⟨z,Z,T,F,a,b,c⟩:=F;refine⟨z,Z,T,F.imp λvs H Q E ⟨u,N,A,I,S,r,q⟩=>?_,a,b,c⟩;unfold Mi.iso at q
 by_cases J:qW I=true
 ·rw[aj J]at q
  refine⟨u,[],[],I,zJ.none,r.nrm (λ_ _ t=>t) (λ_ _ _ t=>t) J,?_⟩;cases hf:f I [] with
  |ok w M=>
   rw[hf]at q;intro s H1 v L C p;cases w with
   |ref m=>
    dsimp only at q;cases hm:M[m]? with
    |none=>rw[hm]at q;exact q.elim|some o=>
     rw[hm]at q;obtain⟨D,i,d⟩:=C.ob m o hm;obtain⟨a2,rfl,e⟩:=p;rw[i]at e;cases e;cases o with
     |lst U=>
      dsimp only at q
      by_cases h:qW U=true
      ·rw[aj h]at q
       obtain⟨t,g,_⟩:=d.there rfl;obtain⟨l,j,B⟩:=S.adopt L i ⟨t,g⟩ (d.nrL h);exact q _ _ _ l j B
      ·rw[av h]at q;exact q.elim
     |dct U=>
      dsimp only at q
      by_cases h:qW (U.map (·.2))=true
      ·rw[aj h]at q
       obtain⟨t,g,_⟩:=d.there rfl;obtain⟨l,j,B⟩:=S.adopt L i ⟨t,g⟩ (d.nrD h);exact q _ _ _ l j B
      ·rw[av h]at q;exact q.elim
     |ro U=>exact q.elim|tab _ _=>exact q.elim
   |_=>
    all_goals
     dsimp only at q;obtain⟨la,X⟩:=L.apart
     first
      |(
        split at q
        ·rename_i Y
         exact q N H1 v la (S.frame X la) (RV.nrm (λ_ _ t=>t) (λ_ _ _ t=>t) Y p)
        ·exact q.elim)
  |exc y M=>rw[hf]at q;exact q.elim|bad=>rw[hf]at q;exact q.elim
 ·rw[av J]at q;exact q.elim
theorem qv.Qb {k:Nat}{f:Fn}(F:qv P w K mg base k x n f):qv P w K mg base k x n (Qb f):=by
 obtain⟨fa,fd,ps,F,a,b,c⟩:=F;refine⟨fa,fd,ps,F.imp λvs H Q E ⟨hl,φ,A,ws,S,r,q⟩=>?_,a,b,c⟩;unfold Mi.Qb at q;cases ws with
 |nil=>exact q.elim|cons T us=>cases T with
  |ref n=>
   dsimp only at q;cases g:A[n]? with
   |none=>rw[g]at q;exact q.elim|some o=>cases o with
    |lst xs=>
     rw[g]at q;dsimp only at q
     by_cases hn:(qW xs&&qW us)=true
     ·rw[aj hn]at q
      rw[ak]at hn;obtain⟨v0,vr,rfl,Z,U⟩:=r;obtain⟨p,Y,rfl,f1,g1,d⟩:=S.lst Z g;have S0:zJ K [p] [.lst xs] H:=by
       refine⟨rfl,λi j a o o' h1 h2 J I _ _=>?_,λm o e=>?_⟩
       ·have:=(cD.mp h1).1
        have:=(cD.mp h2).1
        simp at*;lia
       ·have:m=0:=by have:=(cD.mp e).1;simp at this;lia
        subst this;simp at e;subst e;exact⟨p,rfl,Y,g1,d.nrm (λ_ _ t=>t) (λ_ _ _ t=>t) hn.1⟩
      refine⟨hl,[p],[.lst xs],.ref 0::us,S0,.cons ⟨p,rfl,rfl⟩ (U.nrm (λ_ _ t=>t) (λ_ _ _ t=>t) hn.2),?_⟩;cases hf:f (.ref 0::us) [.lst xs] with
      |ok w A1=>
       rw[hf]at q;dsimp only at q;intro L H1 v l1 S1 X;cases h0:List.head? A1 with
       |none=>rw[h0]at q;exact q.elim|some o=>cases o with
        |lst zs=>
         rw[h0]at q;dsimp only at q
         by_cases hw:(qW zs&&w.nr)=true
         ·rw[aj hw]at q
          rw[ak]at hw;have apart:∀a o,a≠p->H a=some o->H1 a=some o:=λa o ne h=>l1.fr a o h λm e=>by
           have:m=0:=by have:=(cD.mp e).1;simp at this;lia
           subst this;simp at e;exact ne e.symm
          have lf:Le K φ H φ H1:=⟨λ_ _ h=>h,l1.tp,λa o h nn=>apart a o (λe=>nn n (by rw[e];exact f1)) h,λ_ _ h=>.inl h,l1.st,l1.fz⟩
          obtain⟨p',l,u,B,s⟩:=S1.ob 0 _ (by rw[<- List.head?_eq_getElem?];exact h0)
          rw[(l1.ex 0 p rfl)]at l;cases l;refine q φ H1 v lf ?_ (RV.nrm (λ_ _ t=>t) (λ_ _ _ t=>t) hw.2 X);have mt:∀(i:Nat)(w:O),(A.set n (.lst zs))[i]? =some w->w.mut=true->∃C,A[i]? =some C/\C.mut=true:=λi w e mw=>by
           by_cases hi:i=n
           ·subst hi;exact⟨_,g,rfl⟩
           ·rw[aH (Ne.symm hi)]at e;exact⟨w,e,mw⟩
          refine⟨by simp[S.len],λi j a o1 o2 h1 h2 J I m1 m2=>?_,λi w e=>?_⟩
          ·obtain⟨N,l,k1⟩:=mt i o1 J m1
           obtain⟨M,B,k2⟩:=mt j o2 I m2;exact S.inj i j a N M h1 h2 l B k1 k2
          ·by_cases hi:i=n
           ·subst hi
            have:i<A.length:=(cD.mp g).1
            rw[aK this]at e;cases e;exact⟨p,f1,u,B,s.nrm (λ_ _ t=>t) (λ_ _ _ t=>t) hw.1⟩
           ·rw[aH (Ne.symm hi)]at e
            obtain⟨a,l,D⟩:=S.ob i w e;refine⟨a,l,?_⟩
            by_cases hm:w.mut=true
            ·have ne:a≠p:=λz=>hi (S.inj i n a w _ l (by rw[z];exact f1) e g hm rfl)
             exact D.keep lf λz hz=>apart a z ne hz
            ·cases w with
             |lst _=>exact absurd rfl hm|dct _=>exact absurd rfl hm|tab _ _=>exact absurd rfl hm|ro ws=>
              obtain⟨vs,d,s⟩:=D;refine⟨vs,?_,s.mono lf⟩;rcases d with ⟨ob,d⟩|d
              ·refine .inl ⟨ob,apart a _ ?_ d⟩
               intro z;subst z;rw[g1]at d;cases d
              ·exact .inr d
         ·rw[av hw]at q;exact q.elim
        |_=>rw[h0]at q;exact q.elim
      |exc y A1=>rw[hf]at q;exact q.elim|bad=>rw[hf]at q;exact q.elim
     ·rw[av hn]at q;exact q.elim
    |_=>rw[g]at q;exact q.elim
  |_=>exact q.elim
end
section
variable {K:Frag}{a b:Expr}{es:ck}{m:Ev}{st:Stmt}
noncomputable def intsOf:List W->Option (bZ)
 |[]=>some []|w::ws=>match w with
  |.int i=>match intsOf ws with|some I=>some (i::I)|none=>none
  |_=>none
theorem Gn:∀{s:List W}{n:bZ},intsOf s=some n->s=n.map W.int
 |[],_,e=>by cases e;rfl|w::s,n,e=>by
  unfold intsOf at e;cases w with
  |int i=>
   cases E:intsOf s with|none=>rw[E]at e;cases e|some I=>rw[E]at e;cases e;rw[Gn E];rfl
  |_=>cases e
noncomputable def yn:List Int->Int->Int
 |[],m=>m|i::is,m=>yn is (if i > m then i else m)
noncomputable def ko:List Int->Int->Int
 |[],m=>m|i::is,m=>ko is (m+i)
def preSum_eq (n:bZ):∀k,preSum (λi=>n.getD i 0) k+ko (n.drop k) 0=ko n 0∨n.length<k:=by
 have add:∀(l:bZ)(m:Int),ko l m=m+ko l 0:=λl=>by
  induction l with|nil=>intro m;show m=m+0;lia|cons i s I=>intro m;show ko s (m+i)=m+ko s (0+i);rw[I (m+i),I (0+i)];lia
 intro k
 induction k with
 |zero=>left;show(0:Int)+ko n 0=_;lia|succ k I=>
  rcases I with I|I
  ·by_cases h:k<n.length
   ·left
    rw[(a9 h)]at I;have E:ko (n[k]::n.drop (k+1)) 0=n[k]+ko (n.drop (k+1)) 0:=by show ko (n.drop (k+1)) (0+n[k])=_;rw[add];lia
    show preSum _ k+n.getD k 0+_=_;have e:n.getD k 0=n[k]:=by rw[ae,aa h];rfl
    rw[e];lia
   ·right;lia
  ·right;lia
def E8 (n:bZ):preSum (λi=>n.getD i 0) n.length=ko n 0:=by
 rcases preSum_eq n n.length with h|h
 ·rw[bH]at h
  have:ko [] 0=0:=rfl
  lia
 ·lia
def Cg (n:bZ):∀(k:Nat)(H:k<n.length),yn (n.drop (k+1)) (n.getD (argBest (λi j=>decide (n.getD i 0 > n.getD j 0)) k) 0)=yn n.tail (n.getD 0 0):=by
 intro k
 induction k with
 |zero=>intro _;rw[show argBest _ 0=0 from rfl,List.drop_one]|succ k I=>
  intro H;rw[<- I (by lia)]
  rw[(a9 H)];have e:n.getD (k+1) 0=n[k+1]:=by rw[ae,aa H];rfl
  show yn _ (n.getD (if decide (n.getD (k+1) 0 > n.getD (argBest _ k) 0)=true then k+1 else argBest _ k) 0)=yn _ (if n[k+1] > n.getD (argBest _ k) 0 then n[k+1] else n.getD (argBest _ k) 0);rw[e]
  by_cases h:n[k+1] > n.getD (argBest (λi j=>decide (n.getD i 0 > n.getD j 0)) k) 0
  ·rw[aj (by rw[ag];exact h),aj h,e]
  ·rw[av (by rw[ag];exact h),av h]
def JR (K:Frag)(C:List Int->Prop)(f:List Int->Int):List V->Hp->VK->Prop:=λx H Q=>∃a n,x=[.ref a]/\(jd K H a (n.map V.int)∨qy K H a (n.map V.int))/\C n/\Q (.int (f n)) H
def ZS (r:Vals (ns.map V.int) ot){v:Value}(h:ot[i]? =some v):∃t,v=.int (ns.getD i 0) t:=by
 have c:=(cD.mp h).1;have H:i<ns.length:=by have:=r.length;rw[ah]at this;lia
 obtain⟨u,a,b⟩:=r.get (i:=i) (x:=V.int ns[i]) (by simp[H])
 rw[h]at a;cases a;obtain⟨t,rfl⟩:=b;exact⟨t,by rw[ae,aa H];rfl⟩
def D8 (d:X.calm=true):jU X (.builtin "sum") (JR X.K (λ_=>True) λns=>ko ns 0):=by
 intro P s o H x U Q I r h;obtain⟨a,ns,rfl,z,_,q⟩:=h;obtain⟨u,rfl,ru⟩:=vals1 r;cases ru;refine call_sum_walkG (Kz I d z λb j g w S y c l W n p B=>?_);refine⟨j,g,w,_,_,S,λi=>ns.getD i 0,rfl,W,n,p,λi v h=>ZS c h,λf t T k=>?_⟩;have e:b.length=ns.length:=by have:=c.length;rw[ah]at this;lia
 rw[e,E8];exact⟨.int _,H,B f t k,⟨_,rfl⟩,q⟩
def Cy (n:X.calm=true):jU X (.builtin "max") (JR X.K (λns=>ns≠[]) λns=>yn ns.tail (ns.getD 0 0)):=by
 intro U s σ H xs us Q I r h;obtain⟨a,ns,rfl,z,f,q⟩:=h;obtain⟨u,rfl,ru⟩:=vals1 r;cases ru;have N:=List.length_pos_iff.mpr f;refine call_max_walk (Kz I n z λd D y Y S s2 c M W st p P=>?_);have e:d.length=ns.length:=by have:=c.length;rw[ah]at this;lia
 refine⟨D,y,Y,_,_,S,λi j=>decide (ns.getD i 0 > ns.getD j 0),rfl,W,st,p,by lia,?_,λv x Z l k=>?_⟩
 ·intro i j L J g C E h1 h2 o
  obtain⟨t1,rfl⟩:=ZS c h1;obtain⟨T,rfl⟩:=ZS c h2;exact(PyProof.Rows.gt_int o:wpAny (model X.prog X.w) X.A.in1 (compareOp .Gt (.int (ns.getD i 0) t1) (.int (ns.getD j 0) T)) C E g)
 ·obtain⟨t,rfl⟩:=ZS c l
  rw[e];have b:=Cg ns (ns.length-1) (by lia)
  rw[show ns.length-1+1=ns.length by lia,bH]at b
  have B:ns.getD (argBest (λi j=>decide (ns.getD i 0 > ns.getD j 0)) (ns.length-1)) 0=yn ns.tail (ns.getD 0 0):=b;rw[B];exact⟨.int _,H,P x Z k,⟨_,rfl⟩,q⟩
def wD:List W->Hx->R W:=λw A=>match intsOf w with|some (i::is)=>.ok (.int (yn is i)) A|_=>.bad
def QO:List W->Hx->R W:=λw A=>match intsOf w with|some i=>.ok (.int (ko i 0)) A|none=>.bad
def fM:∀ws A,qE (wD ws A):=λws A=>by
 unfold wD;split
 ·exact jL
 ·exact qP
def fN:∀ws A,qE (QO ws A):=λws A=>by
 unfold QO;split
 ·exact jL
 ·exact qP
def Gp {w:List W}{a:Addr}(z:jd K H a ys∨qy K H a ys)(r:zB K φ H w ys)(e:intsOf w=some ns):jd K H a (ns.map V.int)∨qy K H a (ns.map V.int):=by rw[Gn e]at r;rw[<- zB.ints.mp r];exact z
def fO:Qf K (JR K (λns=>ns≠[]) λns=>yn ns.tail (ns.getD 0 0)) wD:=λb A H a y w Q S z r p=>by
 unfold wD at p;cases e:intsOf w with
 |none=>rw[e]at p;exact p.elim|some ns=>cases ns with|nil=>rw[e]at p;exact p.elim|cons i I=>rw[e]at p;exact⟨a,i::I,rfl,Gp z r e,(by intro z;cases z),p b H _ .refl S rfl⟩
def AK:Qf K (JR K (λ_=>True) λns=>ko ns 0) QO:=λb A H a y w Q S z r p=>by
 unfold QO at p;cases e:intsOf w with|none=>rw[e]at p;exact p.elim|some ns=>rw[e]at p;exact⟨a,ns,rfl,Gp z r e,trivial,p b H _ .refl S rfl⟩
def fP (y:W):List W->Nat->Nat
 |[],n=>n|w::ws,n=>fP y ws (if QP w y then n+1 else n)
noncomputable def KR (g:W->W->Hx->R W)(a b:Ev):Ev:=λd A=>(a d A).bind λx e=>match x with|.tup w=>(b d e).bind λy c=>g (.tup w) y c|_=>.bad
def fQ (K:Frag)(r:V->List V->Hp->VK->Prop)(to:TE)(t:TA):TE:=λa H Q=>to a H λx b=>∃p y,x=.ref p/\qy K b p y/\t a b λX h=>r x X h Q
def fR {o:Expr}{to:TE}{t:TA}{N:Str}{id:String}{r:V->List V->Hp->VK->Prop}(S:Slot "tuple" N id)(y:typeOf (.builtin id)=pure (.type "method_descriptor"))(hm:WB X id r)(u:PE X o to)(z:PA X (e::es) t)
  (c:attributeBase o N X.env (eval o X.env)=eval o X.env)
  (w:((backTo oh (starEach (e::es) X.env)).all (λx=>!x.1)&&(backToKw oh (keywordEach [] X.env)).all (λx=>x.1.isSome)
   && decide ((e::es).length+([]:cw).length+(if ([]:cw).isEmpty then 0 else 1)<30))=true)
  (b:(oz.endLine==oh.line)=true)(l:qR e es X)(n:kS oh es X):
  PE X (.Call (.Attribute o N oz) (e::es) [] oh) (fQ X.K r to t):=by
 intro P s J H Q I h;refine wpAny_Call_method_late c w b rfl (zT (u P s J H _ I h) λv T ⟨x,H1,i,f,p,Y,E,ty,g⟩=>?_);subst E;cases f;obtain⟨j,_,Z,_⟩:=i.tuple ty;refine⟨"tuple",id,PySem.F.plainAttrs_tuple,S,y,Z.typeIs,λa B=>by cases B;exact i.tupleN ty,?_⟩
 have A:=z oh P T J H1 _ i g;rw[l]at A ⊢;refine Calls.callWith_builtin (by show(false || (backTo oh (starEach es X.env)).any (·.1))=false;rw[n];rfl) (Calls.evalArgs_plain ?_)
 exact zT A λU M ⟨L,D,C,d,q⟩=>hm P M J D (.ref p) L (.ref p) U Q C rfl d q
theorem R4 {x:W}(q:RV K φ H x v)(e:ym x=true):∀{X:List W}{s:List V},zB K φ H X s->X.all ym=true->s.all wB=true/\(s.countP λz=>wH z v)=X.countP λz=>QP z x
 |[],_,r,_=>by cases r;exact⟨rfl,rfl⟩|w::ws,_,⟨y,r,E,h,t⟩,h2=>by
  subst E;rw[List.all_cons,ak]at h2;obtain⟨I,i⟩:=R4 q e t h2.2;refine⟨by rw[List.all_cons,Kq h h2.1,I];rfl,?_⟩
  rw[List.countP_cons,List.countP_cons,i,VG h q h2.1 e]
noncomputable def fS (l d:Int)(n:Nat):It:=⟨λi _=>i<n,λi H x h=>h=H/\x=.int (l+i * d),λi _=>n<=i⟩
def zfN (t:TA):TI:=λa H R=>t a H λv h=>∃i j:Int,v=[.int i,.int j,.int (-1)]/\(-(2 ^ 62)<=i/\i<2 ^ 62/\-(2 ^ 62)<=j/\j<2 ^ 62)/\R (fS i (-1) (i-j).toNat) h
noncomputable def zfO (h:Int)(n:Nat):jf:=⟨λ_ i=>if i<n then some (some (.int (h-i))) else some none,n⟩
def fT (t:TA):TE:=λa H Q=>t a H λv h=>∃j:Int,v=[.int j]/\∀p,h p=none->Q (.ref p) (upd h p (.rng 0 j))
def fU {T:TA}(g:Gl X "range")(l:X.mg "range"=none)(e:PA X [a] T)(d:starEach [a] X.env=[(false,eval a X.env)]):PE X (.Call (.Name "range" p) [a] [] og) (fT T):=by intro P s f H Q I h;refine Call_ (ZV I g l boot_range (PyProof.Rows.callWith_type1 (zT (e og P s f H _ I h) λU S ⟨v,n,i,r,c⟩=>?_) d rfl));obtain⟨j,rfl,q⟩:=c;obtain⟨u,rfl,⟨t,rfl⟩⟩:=r.one;refine call_range_1 ⟨.ref _,_,i.laid (λb o E=>af _ E) (ax _) ?_,rfl,q _ (i.hok.fresh (ax _))⟩;exact⟨_,_,_,ay _ rfl⟩
noncomputable def Wi (n:Nat):List V:=(List.range n).map λ(i:Nat)=>V.int i
def EF (x:X.calm=true):jU X (.type "list") (λxs H Q=>∃(r:Addr) (j:Int),xs=[.ref r]/\H r=some (.rng 0 j)/\(-(2 ^ 62)<=j/\j<2 ^ 62)/\j.toNat<=sizeLine/\∀l,H l=none->Q (.ref l) (upd H l (.lst (Wi j.toNat)))):=by
 intro P s N H xs U Q I r h;obtain⟨p,j,rfl,o,⟨y,B⟩,z,q⟩:=h;obtain⟨u,rfl,ru⟩:=vals1 r;cases ru;obtain⟨K,T,J,w⟩:=I.hok p _ o;have A:=sizeLine_eq;refine PySem.call_list_range (n:=j.toNat) (I.ok.hd x) (show IsRange s.heap p 0 j 1 K T J from w) (small_one (by lia) (by lia) y B) (by rw[rangeSize_one];split<;>lia) (by lia) λD Y E C L S ⟨M,d⟩=>?_
 refine⟨.ref s.heap.objs.size,_,I.laid L (ax _) ?_,rfl,q _ (I.hok.fresh (ax _))⟩;refine⟨by unfold Wi;simpa using z,E.toList,C,?_,by simpa using S⟩
 have a:∀(l:b0)(k:Nat),(∀(i:Nat) v,l[i]? =some v->∃t,v=.int ((k+i:Nat):Int) t)->Vals ((List.range' k l.length).map λ(i:Nat)=>V.int i) l:=by
  intro l
  induction l with
  |nil=>intro k _;exact .nil|cons v l g=>
   intro k e;refine .cons ?_ (g (k+1) λi f a=>?_)
   ·obtain⟨t,rfl⟩:=e 0 v rfl
    exact⟨t,rfl⟩
   ·obtain⟨t,rfl⟩:=e (i+1) f (by simpa using a)
    exact⟨t,by congr 1;lia⟩
 have b:E.toList.length=j.toNat:=by simpa using M
 have:=a E.toList 0 λi v c=>by
  obtain⟨t,rfl⟩:=d i v (by simpa using c)
  exact⟨t,by congr 1;lia⟩
 rw[b]at this;unfold Wi;rw[range_eq_range'];exact this
def Us (m:Ev):Ev:=λb A=>(m b A).bind λw a=>match w with|.int j=>if jA j&&decide (j.toNat<=zM) then .ok (.ref a.length) (a++[.lst ((List.range j.toNat).map λ(i:Nat)=>W.int i)]) else .bad|_=>.bad
def fV:V->V->Hp->VK->Prop:=λo i H Q=>∃p x k v,o=.ref p/\i=.int k/\0<=k/\H p=some (.lst x)/\x[k.toNat]? =some v/\Q v H
def BD:Lh X fV:=by intro n s x H o i f g Q I ro b h;obtain⟨p,y,k,v,rfl,rfl,w,e,d,q⟩:=h;cases ro;obtain⟨t,rfl⟩:=b;obtain⟨c,r,P,z⟩:=I.list (jd.of e);obtain⟨u,a,ru⟩:=r.get d;have A:=YQ;have l:=r.length;have j:=(cD.mp a).1;exact wpAny_getItem_list P.isList w (by lia) (by simpa using a) ⟨v,H,I,ru,q⟩
def YW (M e f:Ev):Ex:=λd A=>(M d A).bind λo g=>(e d g).bind λi a=>match o,i with
 |.ref n,.int k=>if 0<=k then(match (a[n]?:Option O) with
  |some (.lst ws)=>match ws[k.toNat]? with
   |some (.int x)=>(f d a).bind λy c=>match y with|.int y=>(Zw (.ref n) (.int k) (.int (x+y)) c).bind λ_ b=>.ok (.nx d) b|_=>.bad
   |_=>.bad
  |_=>.bad) else .bad
 |_,_=>.bad
noncomputable def UA (i j k:Nat):Tg:=λw a=>match w with|.tup [x,.tup [y,z]]=>some (((a.set i (some x)).set j (some y)).set k (some z))|_=>none
end
def jG (k:Bool)(h:Heap)(I a:Addr)(i:Nat):Prop:=if k=true then h.IsListIter I a i else h.IsTupleIter I a i
def jX (k:Bool)(h:Heap)(a:Addr)(i:Array Value):Prop:=if k=true then h.IsList a i else h.IsTuple a i
def kq (k:Bool)(K:Frag)(H:Hp)(a:Addr)(x:List V):Prop:=if k=true then jd K H a x else qy K H a x
noncomputable def Y4 (k:Bool):String:=if k then "list_iterator" else "tuple_iterator"
def jG.ob {k:Bool}{I:Addr}(x:jG k h I a i):∃o,h.get? I=some o/\o.cls=.type (Y4 k)/\o.data=.fields #[.ref a,.int i 0]:=by cases k<;>exact x
def jG.mk {k:Bool}{I:Addr}(x:∃o,h.get? I=some o/\o.cls=.type (Y4 k)/\o.data=.fields #[.ref a,.int i 0]):jG k h I a i:=by cases k<;>exact x
def jG.to {k:Bool}{I:Addr}(x:jG k h I a i)(e:∀o,h.get? I=some o->h'.get? I=some o):jG k h' I a i:=let ⟨o,H,r⟩:=x.ob;.mk ⟨o,e o H,r⟩
def jX.ob {k:Bool}(x:jX k h a items):∃o,h.get? a=some o/\o.cls=.type (if k then "list" else "tuple")/\∃n,o.data=.seq items n:=by cases k<;>exact x
def jX.to {k:Bool}(x:jX k h a items)(e:∀o,h.get? a=some o->h'.get? a=some o):jX k h' a items:=by
 cases k with|false=>exact let ⟨o,H,r⟩:=x.ob;⟨o,e o H,r⟩|true=>exact let ⟨o,H,r⟩:=x.ob;⟨o,e o H,r⟩
section
variable {prog:Program}{A:Around}{k:Bool}{it:Addr}
def V3 (h:jX k s.heap a items)(H:Q (.ref s.heap.objs.size) { s with heap:=s.heap.push { cls:=.type (Y4 k),data:=.fields #[.ref a,.int 0 0] } }):wpAny (model prog w) A (pyIter (.ref a)) Q E s:=by
 cases k with|true=>exact wpAny_pyIter_list h H|false=>exact wpAny_pyIter_tuple h H
def GH {x:Value}(t:jG k s.heap it a i)(l:jX k s.heap a items)(g:items[i]? =some x)
  (j:∀f,jG k f it a (i+1)->Heap.SameBut it s.heap f->Q x { s with heap:=f }):wpAny (model prog w) A (Builtin.SmallTypes.nextOf (.ref it)) Q E s:=by
 cases k with
 |true=>exact wpAny_nextOf_list_item t l g j|false=>
  have h:=t;obtain⟨o,b,e,H⟩:=id h;obtain⟨n,c,_,N,d⟩:s.heap.IsTuple a items:=l;refine cz (wpAny_callSpecial?_slot h.typeIs F.slot_tuple_iterator_next (wpAny_call_entry F.slot_tuple_iterator_next h.typeIs F.entry_tuple_iterator_next ?_ (F.args_tuple_iterator_next_1 _)));show wpAny _ _ (field (.ref it) 0 >>= _) _ _ s;refine cz (wpAny_field b H rfl ?_);show wpAny _ _ (field (.ref it) 1 >>= _) _ _ s;refine cz (wpAny_field b H rfl ?_);show wpAny _ _ (seqItems? (.ref a) >>= _) _ _ s;refine cz (wpAny_seqItems c d ?_);simp only[aQ,g];refine cz (wpAny_setField b H (by simp) (cA ⟨x,rfl,cA (j _ (.mk ?_) (Heap.SameBut.update ..))⟩))
  exact⟨_,a4 _ b (Obj.isFreed_of_fields (Obj.data_mapFields H _)),(Obj.cls_mapFields ..).trans e,by rw[Obj.data_mapFields H];simp[rawInt]⟩
def UD (d:A.handled=none)(t:jG k s.heap it a i)(l:jX k s.heap a items)(x:items[i]? =none)
  (j:∀g e,Heap.ExtBut it s.heap g->(∃o,g.get? e=some o/\o.cls=.type "StopIteration")->E (.ref e) { s with heap:=g }):wpAny (model prog w) A (Builtin.SmallTypes.nextOf (.ref it)) Q E s:=by
 cases k with
 |true=>exact wpAny_nextOf_list_end d t l x j|false=>
  have h:=t;obtain⟨p,H,n,b⟩:=id h;obtain⟨q,c,_,N,f⟩:s.heap.IsTuple a items:=l;refine cz (wpAny_callSpecial?_slot h.typeIs F.slot_tuple_iterator_next (wpAny_call_entry F.slot_tuple_iterator_next h.typeIs F.entry_tuple_iterator_next ?_ (F.args_tuple_iterator_next_1 _)));show wpAny _ _ (field (.ref it) 0 >>= _) _ _ s;refine cz (wpAny_field H b rfl ?_);show wpAny _ _ (field (.ref it) 1 >>= _) _ _ s;refine cz (wpAny_field H b rfl ?_);show wpAny _ _ (seqItems? (.ref a) >>= _) _ _ s;refine cz (wpAny_seqItems c f ?_);simp only[aQ,x];refine cz (wpAny_rule (cz (wpAny_setField H b (by simp) ?_)))
  show wpAny _ _ (newExc (.type "StopIteration") [] >>= _) _ _ _;refine cz ?_;simp only[newExc,newTuple];refine cz (m:=firstArgMember _ _) (wpAny_of_eq (by first|rfl|(simp only[firstArgMember];rfl)) ?_);refine wpAny_newObj_type ?_ (by size_fits)
  simp only[raiseNew];refine cz (wpAny_handled ?_)
  first|rw[show A.in1.handled=none from d]|rw[d]
  refine cz (cA (wpAny_throw ?_));exact j _ _ (((Heap.SameBut.update ..).extBut.push _).push _) ⟨_,ay _ rfl,rfl⟩
def OH (g:A.handled=none)(c:a≠it):Draws prog w A it [it,a] items.size (λi v=>items[i]? =some v) (λi h=>jG k h it a i/\jX k h a items) where
 live:=λ_ _ S=>let ⟨o,f,_⟩:=S.1.ob;⟨o,f⟩
 frame:=λ_ _ _ S d=>⟨S.1.to λo e=>d it (by simp) o e,S.2.to λo e=>d a (by simp) o e⟩
 item:=λi s Q E p S j=>GH S.1 S.2 (x:=items[i]) (by simp[p]) λn b H=>j _ n s.toks (by simp[p]) ⟨b,S.2.to λo e=>H.extBut a o c e⟩ H
 done:=λs Q E S l=>UD g S.1 S.2 (by simp) l
end
section
def _root_.L2.Inv.spun {T:Addr}{o:HO}(I:Inv X n9 σ H s)(k:∀b u,b∉fp->s.heap.get? b=some u->h'.get? b=some u)(l:∀b∈fp,wC X n9 H b)(d:s.heap.objs.size<=T)
  (new:jk X.prog X.w (upd H T o) h' T o):Inv X n9 σ (upd H T o) { s with heap:=h',toks:=t' }:=by
 have j:=I.hok.fresh d;have N:∀b u,H b=some u->b∉fp:=λb u e z=>by rw[(l b z).1]at e;cases e
 refine I.step (λb a=>let ⟨_,A,_,i,y,g⟩:=l b a;⟨i,A,y,g⟩) (λb o _ _ h e _=>k b o h e) (λb o _ _ h e _=>⟨o.slots,k b o h e⟩)
  (λb o _ e n=>by rw[qh ((λb u e=>aM (aE (aG e) d)) b o e)];exact n) (λb o h e=>⟨o,k b o h e⟩) (λb x e=>by rw[qh (kI e j)];exact e) (λb u x e=>by rw[qh (kI e j)];exact e)
  (λb P e=>⟨#[],by rw[qh (kI e j),e];simp⟩) (λm t=>?_) (λb u e=>?_) I.bare
 ·obtain⟨o,E,p,f,r⟩:=t
  exact⟨o,E,p,k _ o (λz=>(l _ z).2.1 rfl) f,r⟩
 ·by_cases a:b=T
  ·subst a;rw[jD]at e;cases e;exact new
  ·rw[qh a]at e
   refine(I.hok b u e).stay (λc v h q=>k c v ?_ q) (λc q=>by rw[qh (kI q j)];exact q) λc x q=>by rw[qh (kI q j)];exact q
   rcases h with z|z
   ·rw[z];exact N b u e
   ·exact N c _ z
def _root_.L2.Inv.spun0 (I:Inv X n9 σ H s)(k:∀b u,b∉fp->s.heap.get? b=some u->h'.get? b=some u)(i:∀b∈fp,wC X n9 H b):Inv X n9 σ H { s with heap:=h',toks:=t' }:=by
 have N:∀b u,H b=some u->b∉fp:=λb u e z=>by rw[(i b z).1]at e;cases e
 refine I.step (λb d=>let ⟨_,t,_,g,l,f⟩:=i b d;⟨g,t,l,f⟩) (λb o _ _ h e _=>k b o h e) (λb o _ _ h e _=>⟨o.slots,k b o h e⟩)
  (λb o _ e n=>n) (λb o h e=>⟨o,k b o h e⟩) (λb x e=>e) (λb u x e=>e) (λb P e=>⟨#[],by rw[e];simp⟩) (λm j=>?_) (λb u e=>?_) I.bare
 ·obtain⟨o,E,p,a,r⟩:=j
  exact⟨o,E,p,k _ o (λz=>(i _ z).2.1 rfl) a,r⟩
 ·refine(I.hok b u e).stay (λc v h q=>k c v ?_ q) (λc q=>q) λc x q=>q
  rcases h with z|z
  ·rw[z];exact N b u e
  ·exact N c _ z
def _root_.L2.Inv.sq {k:Bool}(I:Inv X n9 σ H s)(h:kq k X.K H a xs):∃i:b0,Vals xs i/\jX k s.heap a i.toArray/\xs.length<=sizeLine:=by
 cases k with|true=>obtain⟨i,r,p,z⟩:=I.list h;exact⟨i,r,p.isList,z⟩|false=>obtain⟨i,r,p,z⟩:=I.tuple h;exact⟨i,r,(show s.heap.IsTuple a i.toArray from p),z⟩
def _root_.L2.Inv.sq_inj {k:Bool}(I:Inv X n9 σ H s)(h:kq k X.K H a xs)(b:kq k X.K H a ys):xs=ys:=by
 cases k with|true=>exact I.list_inj h b|false=>exact I.tuple_inj h b
end
def T8 (k:Bool)(K:Frag)(a:Addr):It:=
 ⟨λi H=>∃X x,kq k K H a X/\X[i]? =some x,λi H x h=>∃p y,(∀X,kq k K H a X->X[i]? =some y)/\H p=none/\x=.ref p/\h=upd H p (.tup [.int i,y]),λi H=>∃X,kq k K H a X/\X.length=i⟩
def Cu {K:Frag}(k:Bool)(a p it:Addr):Turn P w K (.Tuple oC kk ou) (T8 k K a) [p,it] p (λi h=>(∃old,IsEnum h p it i old)/\jG k h it a i/\p≠it) where
 mem:=by simp
 obj:=λi h st b e=>by
  obtain⟨⟨old,he⟩,hi,_⟩:=st;rcases cB.mp e with rfl|e
  ·exact⟨_,he,λv z=>nomatch z⟩
  ·rw[cG.mp e]
   obtain⟨o,Q,_,hd⟩:=hi.ob;exact⟨o,Q,λv z=>by rw[hd]at z;cases z⟩
 keep:=λi h h' ⟨⟨old,he⟩,hi,ne⟩ kp=>⟨⟨old,kp p (by simp) _ he⟩,hi.to λo n=>kp it (by simp) o n,ne⟩
 item:=by
  intro X hP hw hK Z i n9 s σ H E I hf st S;subst hP hw hK;obtain⟨⟨old,he⟩,hi,ne⟩:=st;obtain⟨xs,x,C,B⟩:=S;obtain⟨g,D,r,hz⟩:=I.sq C;obtain⟨u,hu,ru⟩:=D.get B;obtain⟨oa,f,Y,na,d⟩:=r.ob;have A:a≠it:=λz=>by obtain⟨oi,c,U,l⟩:=hi.ob;rw[<- z,f]at c;cases c;rw[l]at d;cases d
  have ane:p≠a:=λz=>by have t:s.heap.get? a=_:=z ▸ he;rw[f]at t;cases t;cases d
  refine wpAny_pyNext_enum_itemD (OH (I.ok.hd Z) A) he ⟨hi,r⟩ (by simpa using (cD.mp hu).1) ne (by simp[ne,ane]) λy h1 tk J Q N hT hsz hk=>?_
  have ey:=by
   have:g[i]? =some y:=by simpa using J
   rw[hu]at this;exact(aB this).symm
  subst ey;refine⟨_,rfl,wpAny_letOwnedTupleGo_enum Q λh2 T j=>?_⟩;have L:=aG he;refine⟨.ref s.heap.objs.size,upd H s.heap.objs.size (.tup [.int i,x]),?_,rfl,⟨s.heap.objs.size,x,λys J=>by rw[I.sq_inj J C];exact B,I.hok.fresh (ax _),rfl,rfl⟩,⟨⟨_,by simpa using T⟩,?_,ne⟩,λb e=>?_⟩
  ·refine I.spun (λb o e n=>?_) hf (ax _) ?_
   ·exact j.extBut _ _ (λz=>e (by simp[z])) (hk b o (λz=>e (by simp[z])) (λz=>e (by simp[z])) n)
   ·exact⟨by show 2<=sizeLine;decide,[.int i tk,y],.cons ⟨tk,rfl⟩ (.cons ru .nil),_,(j.extBut _ _ (br L) hT),⟨rfl,rfl⟩,0,rfl⟩
  ·exact N.1.to λo n=>j.extBut _ _ (λz=>ne z.symm) n
  ·have bn:b≠s.heap.objs.size:=λz=>by
    rcases cB.mp e with q|q
    ·exact absurd L (by rw[<- q,z];exact aZ _)
    ·obtain⟨oi,c,_⟩:=hi.ob
     exact absurd (aG c) (by rw[<- cG.mp q,z];exact aZ _)
   rw[qh bn];exact(hf b e).1
 done:=by
  intro X hP hw hK Z i n9 s σ H E I hf st S;subst hP hw hK;obtain⟨⟨old,he⟩,hi,ne⟩:=st;obtain⟨xs,C,B⟩:=S;obtain⟨g,D,r,hz⟩:=I.sq C;have en':g.toArray.size=i:=by rw[aD,<- D.length];exact B
  obtain⟨oa,f,Y,na,d⟩:=r.ob;have A:a≠it:=λz=>by obtain⟨oi,c,U,l⟩:=hi.ob;rw[<- z,f]at c;cases c;rw[l]at d;cases d
  refine wpAny_pyNext_enum_endD (OH (I.ok.hd Z) A) he ⟨by rw[en'];exact hi,r⟩ λh1 M=>⟨rfl,?_⟩
  exact I.spun0 (λb o e n=>M b o (λz=>e (by simp[z])) n) hf
 self:=λ_ _ _ _ _ ⟨⟨_,he⟩,_⟩ h=>wpAny_pyIter_enum he h
open AutoSeq1 (wpAny_loadPart')
abbrev Tz (h:Heap)(k:Bool)(a:Addr):Heap:=h.push { cls:=.type (Y4 k),data:=.fields #[.ref a,.int 0 0] }
abbrev Lj (h:Heap)(k:Bool)(a:Addr):Heap:=(Tz h k a).push { cls:=.type "enumerate",data:=.fields #[.none,.bool false,.ref h.objs.size,rawInt 0,.none,.none] }
set_option tactic.hygienic true in
def Ep (a:Addr)(i:Array Value)(n:Nat)(D:cx)(sl:Array (cc)):
  Meets (Builtin.«enumerate.__new__» ⟨[.type "enumerate",.ref a],[]⟩) (λ_ R s=>s.heap.get? a=some { cls:=.type "tuple",dict:=D,data:=.seq i n,slots:=sl }/\R (.ok (.ret (.ref (Tz s.heap false a).objs.size))) { s with heap:=Lj s.heap false a }):=
 .of_wp λP w A R s h=>by
  obtain⟨p,g,d,t,o⟩:=s;obtain⟨H,h⟩:=h;have b:=sub_enumerate;have T:Heap.IsTuple (Shared.heap ⟨p,g,d,t,o⟩) a i:=⟨_,H,rfl,n,rfl⟩
  wp_walk using wpAny_loadPart' H
  refine wpAny_stack_any λS=>cA ?_;split
  ·rename_i c _ _ _ _ _
   cases (c==Value.type "enumerate")<;>(wp_walk using wpAny_loadPart' H,wpAny_pyIter_tuple T;exact⟨_,rfl,h⟩)
  ·wp_walk using wpAny_loadPart' H,wpAny_pyIter_tuple T
   exact⟨_,rfl,h⟩
section
variable {prog:Program}{A:Around}
def DG {k:Bool}(l:jX k s.heap a items)
  (h:∀H,IsEnum H (s.heap.objs.size+1) s.heap.objs.size 0 .none->jG k H s.heap.objs.size a 0->(∀b o,s.heap.get? b=some o->H.get? b=some o)->Q (.ref (s.heap.objs.size+1)) { s with heap:=H }):
  wpAny (model prog w) A (call (.type "enumerate") [.ref a]) Q E s:=by
 cases k with
 |true=>exact call_enumerate_list l λH i g _ f=>h H i g f|false=>
  obtain⟨⟨c,D,dt,sl⟩,e,d,n,p⟩:=(show s.heap.IsTuple a items from l)
  subst d p;refine callType_new F.called_enumerate (by decide) (F.typeCall_enumerate_1 _) (F.newCall_enumerate_1 _) (λobj=>F.args_object_init_2 obj _) F.entry_enumerate_new (Ep a items n D sl) ⟨e,?_⟩
  have j:IsEnum (Lj s.heap false a) (Tz s.heap false a).objs.size s.heap.objs.size 0 .none:=ay _ rfl;rw[(bj ..)]at j ⊢;exact⟨⟨_,j,rfl⟩,h _ j (.mk ⟨_,af _ (ay _ rfl),rfl,rfl⟩) λb o x=>af _ (af _ x)⟩
end
section
variable {a b:Expr}{m:Ev}
def fW (K:Frag)(t:TA):TI:=λa H R=>t a H λv h=>∃p k x,v=[.ref p]/\kq k K h p x/\R (T8 k K p) h
def boot_enumerate:bootBuiltins "enumerate"=some (.type "enumerate"):=by rfl
def boot_zip:bootBuiltins "zip"=some (.type "zip"):=by rfl
def fX {t:TA}(j:Gl X "enumerate")(A:X.mg "enumerate"=none)(n:PA X [a] t)(f:starEach [a] X.env=[(false,eval a X.env)]):
  PI X (.Tuple oC kk ou) (.Call (.Name "enumerate" p) [a] [] og) (fW X.K t):=by
 intro P s y H R I h;refine Call_ (ZV I j A boot_enumerate (PyProof.Rows.callWith_type1 (zT (n og P s y H _ I h) λU S ⟨D,B,i,r,Q⟩=>?_) f rfl));obtain⟨p,k,C,rfl,g,q⟩:=Q;obtain⟨u,rfl,ru⟩:=r.one;cases ru;obtain⟨d,v,sq,w⟩:=i.sq g;refine DG sq λx e o E=>wpAny_pyIter_enum e ?_;refine⟨S.heap.objs.size+1,[S.heap.objs.size+1,S.heap.objs.size],_,_,B,rfl,i.kept E,Cu k p _ _,⟨⟨_,by simpa using e⟩,o,Nat.succ_ne_self _⟩,λb l=>?_,q⟩
 have c:S.heap.objs.size<=b:=by
  rcases cB.mp l with z|z
  ·rw[z];exact le_succ _
  ·rw[cG.mp z];exact ax _
 exact i.fpOk c (i.hok.fresh c)
noncomputable def atEnd (w:List W)(i:Nat)(f:W->W):Option (Option W):=match w[i]? with|some x=>some (some (f x))|none=>if w.length=i then some none else none
def Z7 (w:W)(n:Nat):jf:=⟨λA i=>match zK w A with|some s=>atEnd s i λx=>.tup [.int i,x]|none=>none,n⟩
noncomputable def QH (w:W):Bool:=match w with|.tup _=>false|_=>true
def KC {K:Frag}{A:Hx}{w:W}{s:List W}(S:zJ K φ A H)(q:RV K φ H w v)(e:zK w A=some s):∃p Y,v=.ref p/\kq (QH w) K H p Y/\zB K φ H s Y:=by
 cases w with
 |tup u=>cases e;obtain⟨a,i,E,t,r⟩:=q;exact⟨a,i,E,t,r⟩|ref n=>
  obtain⟨a,E,f⟩:=q;unfold zK at e;dsimp only at e;cases c:A[n]? with
  |none=>rw[c]at e;cases e|some o=>
   rw[c]at e;obtain⟨d,b,r⟩:=S.ob n o c;rw[f]at b;cases b;cases o with|lst x=>cases e;obtain⟨y,g,h⟩:=r;exact⟨a,y,E,jd.of g,h⟩|ro x=>cases e;obtain⟨y,g,h⟩:=r;exact⟨a,y,E,g.sq,h⟩|dct x=>cases e|tab _ _=>cases e
 |non=>cases e|bl _=>cases e|clo _ _ _=>cases e|xc _=>cases e|int _=>cases e|str _=>cases e
def VA {K:Frag}{a:b8}{A:Hx}{h:Hp}{w:W}{b:List W}{p:Addr}(q:RV K φ H w (.ref p))(lw:QW K φ H a h)(S:zJ K a A h)(E:zK w A=some b):∃y,kq (QH w) K h p y/\zB K a h b y:=by obtain⟨P,Y,e,d,c⟩:=KC S (RV.monoW lw q) E;cases e;exact⟨Y,d,c⟩
def fY {K:Frag}{w:W}{p:Addr}(q:RV K φ H w (.ref p)):QV K φ H (Z7 w n) (T8 (QH w) K p):=λi a l g lw S=>by
 unfold Z7;dsimp only;cases es:zK w g with
 |none=>exact⟨λ_ z=>(by cases z),λz=>(by cases z)⟩|some s=>
  dsimp only;obtain⟨Y,o,r⟩:=VA q lw S es;unfold atEnd;cases E:s[i]? with
  |none=>
   by_cases h:s.length=i
   ·rw[aj h]
    exact⟨λ_ z=>(by cases z),λ_=>⟨Y,o,by rw[<- r.length];exact h⟩⟩
   ·rw[av h]
    exact⟨λ_ z=>(by cases z),λz=>(by cases z)⟩
  |some x=>
   refine⟨λu z=>?_,λz=>(by cases z)⟩
   cases z;obtain⟨y,e,f⟩:=r.get E;refine⟨⟨Y,y,o,e⟩,λX D ⟨t,j,b,c,v,d⟩=>?_⟩;subst v d
   have:=b Y o
   rw[e]at this;cases this;obtain⟨C,B,A⟩:=QA S c (.cons (w:=.int i) rfl (.one f));exact⟨C,B,A⟩
def Y3 (m:Ev):Ei:=λb A=>(m b A).bind λw a=>match zK w a with|some s=>.ok (Z7 w s.length) a|none=>.bad
end
section
variable {prog:Program}{A:Around}{z TI TO i1 i2 l1 l2:Addr}{n1 n2:Nat}{c1 c2:Bool}{xs ys:Array Value}{x y a b:Value}
def fZ (D:ZipApart z TI TO i1 i2 l1 l2)(H:IsZip s.heap z TI TO .none)(I:IsPair s.heap TI (.ref i1) (.ref i2))(J:IsPair s.heap TO a b)
  (g1:jG c1 s.heap i1 l1 n1)(g2:jG c2 s.heap i2 l2 n2)(s1:jX c1 s.heap l1 xs)(s2:jX c2 s.heap l2 ys)(hx:xs[n1]? =some x)(hy:ys[n2]? =some y)
  (hQ:∀h,IsZip h z TI TO (rawInt s.heap.objs.size)->IsPair h TI (.ref i1) (.ref i2)->IsPair h TO x y->jG c1 h i1 l1 (n1+1)->jG c2 h i2 l2 (n2+1)->IsPair h s.heap.objs.size x y->
   (∀c o,c≠z->c≠TO->c≠i1->c≠i2->s.heap.get? c=some o->h.get? c=some o)->Q (.ref s.heap.objs.size) { s with heap:=h }):
  wpAny (model prog w) A (Builtin.«zip.__next__» ⟨[.ref z],[]⟩) (λfin Y=>∃v,fin=.done (.ret v)/\Q v Y) E s:=by
 show wpAny _ _ (field (.ref z) 2 >>= _) _ _ _;refine cz (wpAny_field H rfl rfl ?_);show wpAny _ _ (field (.ref z) 3 >>= _) _ _ _;refine cz (wpAny_field H rfl rfl (cz (wpAny_seqItems I rfl ?_)));show wpAny _ _ (Builtin.SmallTypes.ownedTupleIsFree (.ref z) >>= _) _ _ _;refine cz ?_;unfold Builtin.SmallTypes.ownedTupleIsFree;refine cz (wpAny_field H rfl rfl (cA ?_));simp only[if_true];refine cz (wpAny_rule (cz (wpAny_field H rfl rfl ?_)));refine cz (wpAny_setField_rec H (by simp) λha u i=>?_);replace u:IsZip ha z TI TO .ellipsis:=u
 refine cz ?_;simp only[List.zipIdx_cons,List.zipIdx_nil,forIn_cons,List.forIn_nil];refine cz (cz (wpAny_onRaise ?_));show wpAny _ _ (Builtin.SmallTypes.nextOf (.ref i1) >>= _) _ _ _;refine cz (GH (g1.to λo e=>i.extBut _ _ D.i1z e) (s1.to λo e=>i.extBut _ _ D.l1z e) hx λhb gb p=>cA ?_);have M:=p.extBut _ _ D.TOi1 (i.extBut _ _ D.TOz J);refine cz (wpAny_seqItems M rfl (cz (wpAny_updateSeq_pair M λX T sc=>cz (wpAny_letGo (cA ?_)))));replace T:IsPair X TO x b:=T;refine cz (cz (wpAny_onRaise ?_));show wpAny _ _ (Builtin.SmallTypes.nextOf (.ref i2) >>= _) _ _ _;have up:∀c o,c≠z->c≠i1->c≠TO->s.heap.get? c=some o->X.get? c=some o:=λc o f d j e=>sc.extBut _ _ j (p.extBut _ _ d (i.extBut _ _ f e));refine cz (GH (g2.to λo e=>up _ o D.i2z D.i12.symm D.TOi2.symm e) (s2.to λo e=>up _ o D.l2z D.l2i1 D.l2TO e) hy λhd gd g=>cA ?_);have L:=g.extBut _ _ D.TOi2 T;refine cz (wpAny_seqItems L rfl (cz (wpAny_updateSeq_pair L λhe t S=>cz (wpAny_letGo (cA (cA ?_))))));replace t:IsPair he TO x y:=t;refine cz (wpAny_seqItems t rfl (cz (wpAny_newTuple ?_)));have l:he.objs.size=s.heap.objs.size:=by rw[S.1,g.1,sc.1,p.1,i.1]
 have K:=S.extBut _ _ D.TOz.symm (g.extBut _ _ D.i2z.symm (sc.extBut _ _ D.TOz.symm (p.extBut _ _ D.i1z.symm u)));have U:=λc o f d j B e=>S.extBut _ _ d (g.extBut _ _ B (up c o f j d e));have Z:=aG K;show wpAny _ _ (Builtin.SmallTypes.ownedTupleHandOut (.ref z) (.ref he.objs.size) >>= _) _ _ _;refine cz ?_;unfold Builtin.SmallTypes.ownedTupleHandOut;refine cz (wpAny_setField_rec (af _ K) (by simp) λhg r P=>?_);replace r:IsZip hg z TI TO (rawInt he.objs.size):=r
 refine wpAny_setField_rec r (by simp) λC n N=>?_;replace n:IsZip C z TI TO (rawInt he.objs.size):=n
 have fin:∀c o,c≠z->he.get? c=some o->C.get? c=some o:=λc o q e=>N.extBut _ _ q (P.extBut _ _ q (af _ e));have tk:=N.extBut _ _ (br Z) (P.extBut _ _ (br Z) (ay _ rfl));rw[l]at n tk;refine cA ⟨_,rfl,?_⟩;show Q (.ref he.objs.size) _;rw[l];exact hQ C n (fin _ _ D.TIz (U _ _ D.TIz D.TITO D.TIi1 D.TIi2 I)) (fin _ _ D.TOz t) ((((gb.to λo e=>sc.extBut _ _ D.TOi1.symm e).to λo e=>g.extBut _ _ D.i12 e).to λo e=>S.extBut _ _ D.TOi1.symm e).to λo e=>fin _ o D.i1z e) ((gd.to λo e=>S.extBut _ _ D.TOi2.symm e).to λo e=>fin _ o D.i2z e) tk λc o f d j B e=>fin c o f (U c o f d j B e)
def f3 {Q:Fin->Shared->Prop}(J:A.handled=none)(D:ZipApart z TI TO i1 i2 l1 l2)(i:IsZip s.heap z TI TO .none)(I:IsPair s.heap TI (.ref i1) (.ref i2))(t:IsPair s.heap TO a b)
  (g1:jG c1 s.heap i1 l1 n1)(g2:jG c2 s.heap i2 l2 n2)(s1:jX c1 s.heap l1 xs)(s2:jX c2 s.heap l2 ys)(j:xs[n1]? =none∨ys[n2]? =none)
  (K:∀u e,(∀c o,c≠z->c≠TO->c≠i1->c≠i2->s.heap.get? c=some o->u.get? c=some o)->(∃o,u.get? e=some o/\o.cls=.type "StopIteration")->E (.ref e) { s with heap:=u }):
  wpAny (model prog w) A (Builtin.«zip.__next__» ⟨[.ref z],[]⟩) Q E s:=by
 show wpAny _ _ (field (.ref z) 2 >>= _) _ _ _;refine cz (wpAny_field i rfl rfl ?_);show wpAny _ _ (field (.ref z) 3 >>= _) _ _ _;refine cz (wpAny_field i rfl rfl (cz (wpAny_seqItems I rfl ?_)));show wpAny _ _ (Builtin.SmallTypes.ownedTupleIsFree (.ref z) >>= _) _ _ _;refine cz ?_;unfold Builtin.SmallTypes.ownedTupleIsFree;refine cz (wpAny_field i rfl rfl (cA ?_));simp only[if_true];refine cz (wpAny_rule (cz (wpAny_field i rfl rfl ?_)));refine cz (wpAny_setField_rec i (by simp) λP Z f=>?_);replace Z:IsZip P z TI TO .ellipsis:=Z
 refine cz ?_;simp only[List.zipIdx_cons,List.zipIdx_nil,forIn_cons,List.forIn_nil];refine cz (cz (wpAny_onRaise ?_));show wpAny _ _ (Builtin.SmallTypes.nextOf (.ref i1) >>= _) _ _ _;have ga:=g1.to λo e=>f.extBut _ _ D.i1z e;have Y:=s1.to λo e=>f.extBut _ _ D.l1z e;cases p:xs[n1]? with
 |none=>
  refine cz (UD J ga Y p λN e S he=>?_);obtain⟨n,h,H⟩:=he;have y:=S _ _ D.i1z.symm Z;exact wpAny_setField_rec y (by simp) λr _ sc=>K r e (λc o d _ g _ q=>sc.extBut _ _ d (S _ _ g (f.extBut _ _ d q))) ⟨n,sc.extBut _ _ (λq=>by subst q;rw[y]at h;cases h;simp at H) h,H⟩
 |some x=>
  have M:ys[n2]? =none:=by
   rcases j with q|q
   ·rw[p]at q;cases q
   ·exact q
  refine cz (GH ga Y p λN X S=>cA ?_);have T:=S.extBut _ _ D.TOi1 (f.extBut _ _ D.TOz t);refine cz (wpAny_seqItems T rfl (cz (wpAny_updateSeq_pair T λr U sc=>cz (wpAny_letGo (cA ?_)))));refine cz (cz (wpAny_onRaise ?_));show wpAny _ _ (Builtin.SmallTypes.nextOf (.ref i2) >>= _) _ _ _;have up:∀c o,c≠z->c≠i1->c≠TO->s.heap.get? c=some o->r.get? c=some o:=λc o d l g e=>sc.extBut _ _ g (S.extBut _ _ l (f.extBut _ _ d e));refine cz (UD J (g2.to λo e=>up _ o D.i2z D.i12.symm D.TOi2.symm e) (s2.to λo e=>up _ o D.l2z D.l2i1 D.l2TO e) M λhd e C he=>?_);obtain⟨n,h,H⟩:=he;have v:=C _ _ D.i2z.symm (sc.extBut _ _ D.TOz.symm (S.extBut _ _ D.i1z.symm Z));exact wpAny_setField_rec v (by simp) λhf _ B=>K hf e (λc o d l g L q=>B.extBut _ _ d (C _ _ L (up c o d g l q))) ⟨n,B.extBut _ _ (λq=>by subst q;rw[v]at h;cases h;simp at H) h,H⟩
def f5 {Q:Option Value->Shared->Prop}(D:ZipApart z TI TO i1 i2 l1 l2)(d:IsZip s.heap z TI TO .none)(I:IsPair s.heap TI (.ref i1) (.ref i2))(H:IsPair s.heap TO a b)
  (v:jG c1 s.heap i1 l1 n1)(u:jG c2 s.heap i2 l2 n2)(t:jX c1 s.heap l1 xs)(S:jX c2 s.heap l2 ys)(p:xs[n1]? =some x)(n:ys[n2]? =some y)
  (r:∀h,IsZip h z TI TO (rawInt s.heap.objs.size)->IsPair h TI (.ref i1) (.ref i2)->IsPair h TO x y->jG c1 h i1 l1 (n1+1)->jG c2 h i2 l2 (n2+1)->IsPair h s.heap.objs.size x y->
   (∀c o,c≠z->c≠TO->c≠i1->c≠i2->s.heap.get? c=some o->h.get? c=some o)->Q (some (.ref s.heap.objs.size)) { s with heap:=h }):wpAny (model prog w) A (pyNext (.ref z)) Q E s:=by
 have T:s.TypeIs (.ref z) "zip":=⟨_,d,rfl⟩;exact cz (wpAny_attempt (wpAny_callSpecial?_slot T F.slot_zip_next (wpAny_call_entry F.slot_zip_next T F.entry_zip_next
  (fZ D d I H v u t S p n λh l j i g f e q=>cA (r h l j i g f e q)) (F.args_zip_next_1 _))))
def f6 {Q:Option Value->Shared->Prop}(j:A.handled=none)(D:ZipApart z TI TO i1 i2 l1 l2)(f:IsZip s.heap z TI TO .none)(I:IsPair s.heap TI (.ref i1) (.ref i2))(H:IsPair s.heap TO a b)
  (t:jG c1 s.heap i1 l1 n1)(r:jG c2 s.heap i2 l2 n2)(p:jX c1 s.heap l1 xs)(S:jX c2 s.heap l2 ys)(h:xs[n1]? =none∨ys[n2]? =none)
  (n:∀d,(∀c o,c≠z->c≠TO->c≠i1->c≠i2->s.heap.get? c=some o->d.get? c=some o)->Q none { s with heap:=d }):wpAny (model prog w) A (pyNext (.ref z)) Q E s:=by
 have T:s.TypeIs (.ref z) "zip":=⟨_,f,rfl⟩;refine cz (wpAny_attempt (wpAny_callSpecial?_slot T F.slot_zip_next (wpAny_call_entry F.slot_zip_next T F.entry_zip_next (f3 j D f I H t r p S h λd e i q=>?_) (F.args_zip_next_1 _))));obtain⟨o,g,l⟩:=q;exact cz (wpAny_isInstance ⟨o,g,l⟩ isSubtype_stop (cA (n _ i)))
end
abbrev Xz (h:Heap)(c:Bool)(l:Addr):Heap:=h.push { cls:=.type (Y4 c),data:=.fields #[.ref l,.int 0 0] }
abbrev XG (h:Heap)(C c:Bool)(L l:Addr):Heap:=(Xz h C L).push { cls:=.type (Y4 c),data:=.fields #[.ref l,.int 0 0] }
abbrev Xu (h:Heap)(c C:Bool)(L l:Addr):Heap:=(XG h c C L l).push { cls:=.type "tuple",data:=.seq #[.ref h.objs.size,.ref (Xz h c L).objs.size] }
abbrev XD (h:Heap)(C c:Bool)(L l:Addr):Heap:=(Xu h C c L l).push { cls:=.type "tuple",data:=.seq #[.none,.none] }
abbrev Wg (h:Heap)(C c:Bool)(L l:Addr):Heap:=(XD h C c L l).push { cls:=.type "zip",data:=.fields #[.none,.bool false,.bool false,.ref (XG h C c L l).objs.size,.ref (Xu h C c L l).objs.size] }
def DK (C c:Bool)(L l:Addr)(x y:Array Value):
  Meets (Builtin.«zip.__new__» ⟨[.type "zip",.ref L,.ref l],[]⟩) (λ_ R s=>jX C s.heap L x/\jX c s.heap l y/\R (.ok (.ret (.ref (XD s.heap C c L l).objs.size))) { s with heap:=Wg s.heap C c L l }):=
 .of_wp λP w A R s h=>by
  obtain⟨p,g,d,t,a⟩:=s;obtain⟨Q,q,h⟩:=h;have H:=sub_zip
  wp_walk using V3 Q,V3 (q.to λo e=>af _ e)
  exact⟨_,rfl,h⟩
section
variable {prog:Program}{A:Around}{c1 c2:Bool}{l1 l2:Addr}{xs ys:Array Value}
def Ah (f:jX c1 s.heap l1 xs)(S:jX c2 s.heap l2 ys)
  (h:∀H n,n=s.heap.objs.size->IsZip H (n+4) (n+2) (n+3) .none->IsPair H (n+2) (.ref n) (.ref (n+1))->IsPair H (n+3) .none .none->jG c1 H n l1 0->jG c2 H (n+1) l2 0->
   (∀c o,s.heap.get? c=some o->H.get? c=some o)->Q (.ref (n+4)) { s with heap:=H }):wpAny (model prog w) A (call (.type "zip") [.ref l1,.ref l2]) Q E s:=by
 refine callType_new F.called_zip (by decide) (F.typeCall_zip_2 _ _) (F.newCall_zip_2 _ _) (λobj=>F.args_object_init_3 obj _ _) F.entry_zip_new (DK c1 c2 l1 l2 xs ys) ⟨f,S,?_⟩
 have a:(Xz s.heap c1 l1).objs.size=s.heap.objs.size+1:=bj ..;have Z:(XG s.heap c1 c2 l1 l2).objs.size=s.heap.objs.size+2:=by rw[bj,a]
 have z:(Xu s.heap c1 c2 l1 l2).objs.size=s.heap.objs.size+3:=by rw[bj,Z]
 have b:(XD s.heap c1 c2 l1 l2).objs.size=s.heap.objs.size+4:=by rw[bj,z]
 have y:(Wg s.heap c1 c2 l1 l2).get? (XD s.heap c1 c2 l1 l2).objs.size=some _:=ay _ rfl;have Y:(Wg s.heap c1 c2 l1 l2).get? (Xu s.heap c1 c2 l1 l2).objs.size=some _:=af _ (ay _ rfl);have e:(Wg s.heap c1 c2 l1 l2).get? (XG s.heap c1 c2 l1 l2).objs.size=some _:=af _ (af _ (ay _ rfl));have d:(Wg s.heap c1 c2 l1 l2).get? (Xz s.heap c1 l1).objs.size=some _:=af _ (af _ (af _ (ay _ rfl)));rw[Z,z,b]at y;rw[a,Z]at e;rw[z]at Y;rw[a]at d;rw[b];exact⟨⟨_,y,rfl⟩,h _ _ rfl y e Y (.mk ⟨_,(af _ (af _ (af _ (af _ (ay _ rfl))))),rfl,rfl⟩) (.mk ⟨_,d,rfl,rfl⟩) λc o q=>
  af _ (af _ (af _ (af _ (af _ q))))⟩
end
def Sa (C c:Bool)(K:Frag)(p q:Addr):It:=
 ⟨λi H=>∃X Y x y,kq C K H p X/\kq c K H q Y/\X[i]? =some x/\Y[i]? =some y,
  λi H v h=>∃t x y,(∀X,kq C K H p X->X[i]? =some x)/\(∀Y,kq c K H q Y->Y[i]? =some y)/\H t=none/\v=.ref t/\h=upd H t (.tup [x,y]),
  λi H=>∃X Y,kq C K H p X/\kq c K H q Y/\(X[i]? =none∨Y[i]? =none)⟩
def BP {K:Frag}(c1 c2:Bool)(p q z TI TO J C:Addr)(D:ZipApart z TI TO J C p q):
  Turn P w K (.Tuple oC kk ou) (Sa c1 c2 K p q) [z,TI,TO,J,C] z (λi h=>IsZip h z TI TO .none/\IsPair h TI (.ref J) (.ref C)/\(∃a b,IsPair h TO a b)/\jG c1 h J p i/\jG c2 h C q i) where
 mem:=by simp
 obj:=λi h st b d=>by
  obtain⟨j,g,⟨N,M,f⟩,g1,g2⟩:=st;simp only[bL,bx,or_false]at d;rcases d with rfl|rfl|rfl|rfl|rfl
  ·exact⟨_,j,λv e=>nomatch e⟩
  ·exact⟨_,g,λv e=>nomatch e⟩
  ·exact⟨_,f,λv e=>nomatch e⟩
  ·obtain⟨o,u,_,hd⟩:=g1.ob;exact⟨o,u,λv e=>by rw[hd]at e;cases e⟩
  ·obtain⟨o,u,_,hd⟩:=g2.ob;exact⟨o,u,λv e=>by rw[hd]at e;cases e⟩
 keep:=λi h h' ⟨j,g,⟨N,M,f⟩,g1,g2⟩ k=>⟨k z (by simp) _ j,k TI (by simp) _ g,⟨N,M,k TO (by simp) _ f⟩,g1.to λo e=>k J (by simp) o e,g2.to λo e=>k C (by simp) o e⟩
 item:=by
  intro X hP hw hK hc i n9 s σ H E I hf st Z;subst hP hw hK;obtain⟨j,g,⟨N,M,f⟩,g1,g2⟩:=st;obtain⟨xs,ys,x,y,h1,h2,ex,ey⟩:=Z;obtain⟨n,Y,r,_⟩:=I.sq h1;obtain⟨l,U,S,_⟩:=I.sq h2;obtain⟨u1,eu1,T⟩:=Y.get ex;obtain⟨u2,eu2,Q⟩:=U.get ey;refine f5 D j g f g1 g2 r S (by simpa using eu1) (by simpa using eu2) λhh z1 z2 z3 z4 z5 z6 kp=>?_
  refine⟨_,rfl,wpAny_letOwnedTupleGo_zip z1 λhk zk B=>?_⟩;have lt:∀{c o},s.heap.get? c=some o->c≠s.heap.objs.size:=λe=>aM (aG e);have fre:∀b∈[z,TI,TO,J,C],b≠s.heap.objs.size:=λb d=>by
   simp only[bL,bx,or_false]at d;rcases d with rfl|rfl|rfl|rfl|rfl
   ·exact lt j
   ·exact lt g
   ·exact lt f
   ·obtain⟨o,u,_⟩:=g1.ob;exact lt u
   ·obtain⟨o,u,_⟩:=g2.ob;exact lt u
  refine⟨.ref s.heap.objs.size,upd H s.heap.objs.size (.tup [x,y]),?_,rfl,⟨s.heap.objs.size,x,y,λzs t=>by rw[I.sq_inj t h1];exact ex,λzs t=>by rw[I.sq_inj t h2];exact ey,I.hok.fresh (ax _),rfl,rfl⟩,
   ⟨zk,B.extBut _ _ D.TIz z2,⟨_,_,B.extBut _ _ D.TOz z3⟩,z4.to λo e=>B.extBut _ _ D.i1z e,z5.to λo e=>B.extBut _ _ D.i2z e⟩,λb d=>?_⟩
  ·refine I.spun (λb o d eo=>?_) hf (ax _) ?_
   ·exact B.extBut _ _ (λe=>d (by simp[e])) (kp b o (λe=>d (by simp[e])) (λe=>d (by simp[e])) (λe=>d (by simp[e])) (λe=>d (by simp[e])) eo)
   ·exact⟨by show 2<=sizeLine;decide,[u1,u2],.cons T (.cons Q .nil),_,(B.extBut _ _ (lt j).symm z6),⟨rfl,rfl⟩,0,rfl⟩
  ·show upd H s.heap.objs.size _ b=none
   rw[qh (fre b d)];exact(hf b d).1
 done:=by
  intro X hP hw hK hc i n9 s σ H E I hf st Z;subst hP hw hK;obtain⟨j,g,⟨N,M,f⟩,g1,g2⟩:=st;obtain⟨xs,ys,h1,h2,L⟩:=Z;obtain⟨n,Y,r,_⟩:=I.sq h1;obtain⟨l,U,S,_⟩:=I.sq h2;have A:n.toArray[i]? =none∨l.toArray[i]? =none:=by
   rcases L with e|e
   ·exact .inl (by simpa using Y.none_of e)
   ·exact .inr (by simpa using U.none_of e)
  exact f6 (I.ok.hd hc) D j g f g1 g2 r S A λhh kp=>⟨rfl,I.spun0 (λb o d eo=>kp b o (λe=>d (by simp[e])) (λe=>d (by simp[e])) (λe=>d (by simp[e])) (λe=>d (by simp[e])) eo) hf⟩
 self:=λ_ _ _ _ _ st h=>wpAny_pyIter_zip st.1 h
section
variable {a b:Expr}{m:Ev}
def f7 (K:Frag)(t:TA):TI:=λa H R=>t a H λv h=>∃p q C c x y,v=[.ref p,.ref q]/\kq C K h p x/\kq c K h q y/\R (Sa C c K p q) h
def f9 {T:TA}(U:Gl X "zip")(hm:X.mg "zip"=none)(Y:PA X [a,b] T)(N:qR a [b] X)(P:kS og [b] X):
  PI X (.Tuple oC kk ou) (.Call (.Name "zip" p) [a,b] [] og) (f7 X.K T):=by
 intro n9 s σ H R I h;refine Call_ (ZV I U hm boot_zip (PyProof.Rows.callWith_type1 (zT (Y og n9 s σ H _ I h) λus s1 ⟨vs,H1,g,M,Q⟩=>?_) N P));obtain⟨p,q,c1,c2,xs,ys,rfl,h1,h2,hR⟩:=Q;obtain⟨u1,u2,rfl,o,r⟩:=M.two;cases o;cases r;obtain⟨w,J,d,_⟩:=g.sq h1;obtain⟨v,C,S,_⟩:=g.sq h2;obtain⟨op,u,_⟩:=d.ob;obtain⟨oq,t,_⟩:=S.ob;have L:=aG u;have l:=aG t;refine Ah d S λh' n E z B A y Z kp=>wpAny_pyIter_zip z ?_;rw[<- E]at L l;have ne1:∀(i j:Nat),i≠j->n+i≠n+j:=λi j h e=>h (Nat.add_left_cancel e);have ne2:∀(c:Nat)(i:Nat),c<n->c≠n+i:=λc i h e=>absurd h (by rw[e];exact Nat.not_lt.mpr (le_add_right n i))
 have D:ZipApart (n+4) (n+2) (n+3) (n+0) (n+1) p q:=⟨ne1 2 4 (by decide),ne1 3 4 (by decide),ne1 0 4 (by decide),ne1 1 4 (by decide),ne1 2 3 (by decide),ne1 2 0 (by decide),ne1 2 1 (by decide),ne1 3 0 (by decide),ne1 3 1 (by decide),ne1 0 1 (by decide),
  ne2 p 4 L,ne2 p 3 L,ne2 p 0 L,ne2 p 1 L,ne2 q 4 l,ne2 q 3 l,ne2 q 0 l,ne2 q 1 l⟩
 refine⟨n+4,[n+4,n+2,n+3,n,n+1],_,_,H1,rfl,g.kept kp,BP c1 c2 p q _ _ _ _ _ D,⟨z,B,⟨_,_,A⟩,y,Z⟩,λc x=>?_,hR⟩;have f:s1.heap.objs.size<=c:=by
  rw[<- E];simp only[bL,bx,or_false]at x;rcases x with rfl|rfl|rfl|rfl|rfl
  ·exact le_add_right _ _
  ·exact le_add_right _ _
  ·exact le_add_right _ _
  ·exact ax _
  ·exact le_add_right _ _
 exact g.fpOk f (g.hok.fresh f)
noncomputable def zip2:Option W->Option W->Option W
 |some x,some y=>some (.tup [x,y])|_,_=>none
def Zv (w a:W)(n:Nat):jf:=⟨λA i=>match zK w A,zK a A with|some u,some v=>some (zip2 u[i]? v[i]?)|_,_=>none,n⟩
def gg {K:Frag}{w a:W}{p P:Addr}(q:RV K φ H w (.ref p))(Q:RV K φ H a (.ref P)):QV K φ H (Zv w a n) (Sa (QH w) (QH a) K p P):=λi b C A lw S=>by
 unfold Zv;dsimp only;cases es:zK w A with
 |none=>exact⟨λ_ z=>(by cases z),λz=>(by cases z)⟩|some U=>
  cases es':zK a A with
  |none=>exact⟨λ_ z=>(by cases z),λz=>(by cases z)⟩|some vs=>
   dsimp only;obtain⟨J,L,M⟩:=VA q lw S es;obtain⟨Y,h,c⟩:=VA Q lw S es';have non:∀{U:List W}{J:List V},zB K b C U J->U[i]? =none->J[i]? =none:=λr e=>by rw[List.getElem?_eq_none_iff]at e ⊢;rw[<- r.length];exact e
   cases d:U[i]? with
   |none=>exact⟨λ_ z=>(by cases z),λ_=>⟨J,Y,L,h,.inl (non M d)⟩⟩|some x=>
    cases E:vs[i]? with
    |none=>exact⟨λ_ z=>(by cases z),λ_=>⟨J,Y,L,h,.inr (non c E)⟩⟩|some y=>
     refine⟨λu z=>?_,λz=>(by cases z)⟩
     cases z;obtain⟨g,Z,f2⟩:=M.get d;obtain⟨v,f,f4⟩:=c.get E;refine⟨⟨J,Y,g,v,L,h,Z,f⟩,λX H1 ⟨t,I,D,l,j,o,ex,s⟩=>?_⟩;subst ex s;have T:=l J L;have N:=j Y h;rw[Z]at T;cases T;rw[f]at N;cases N;obtain⟨a1,a2,B⟩:=QA S o (.cons f2 (.one f4));exact⟨a1,a2,B⟩
def Jo (m M:Ev):Ei:=λc A=>(m c A).bind λw d=>(M c d).bind λb a=>match zK w a,zK b a with|some u,some _=>.ok (Zv w b u.length) a|_,_=>.bad
variable {K:Frag}{c:Expr}
noncomputable def Wj:Ev:=λ_ A=>.ok (.ref A.length) (A++[.dct []])
noncomputable def Xr:W->Option Key
 |.int i=>some (.inl i)|_=>none
noncomputable def yc (k:Key):List (Key×W)->Option W
 |[]=>none|(j,w)::r=>if j=k then some w else yc k r
theorem VF (k:Key):∀{s:List (Key×W)}{u:List (Key×V)},u.map (·.1)=s.map (·.1)->zB K φ H (s.map (·.2)) (u.map (·.2))->
  (∀w,yc k s=some w->∃v,wd u k=some v/\RV K φ H w v)/\(yc k s=none->wd u k=none)
 |[],[],_,_=>⟨λw h=>(by cases h),λ_=>rfl⟩|(j,w)::s,(J,v)::u,h,r=>by
  simp only[a5,List.cons.injEq]at h;obtain⟨d,f,e,l,i⟩:=r;obtain⟨rfl,rfl⟩:=e;have b:=h.1;subst b
  by_cases a:J=k
  ·refine⟨λc g=>⟨v,VV a,?_⟩,λn=>?_⟩
   ·unfold yc at g;rw[aj a]at g;cases g;exact l
   ·unfold yc at n;rw[aj a]at n;cases n
  ·unfold yc
   rw[av a,VU a];exact(VF k h.2 i)
theorem zJ.dct {A:Hx}{s:List (Key×W)}(S:zJ K φ A H)(q:RV K φ H (.ref n) v)(e:A[n]? =some (.dct s)):∃p u,v=.ref p/\φ[n]? =some p/\H p=some (.dK u)/\u.map (·.1)=s.map (·.1)/\zB K φ H (s.map (·.2)) (u.map (·.2)):=by obtain⟨p,rfl,d⟩:=q;obtain⟨P,c,u,b,a,h⟩:=S.ob n _ e;rw[d]at c;cases c;exact⟨p,u,rfl,d,b,a,h⟩
def U6:W->W->Hx->R W:=λd k A=>match d,Xr k with
 |.ref n,some k=>match A[n]? with
  |some (.dct oo)=>match yc k oo with|some w=>.ok w A|none=>.bad
  |_=>.bad
 |_,_=>.bad
def AX:V->List V->Hp->VK->Prop:=λx s H Q=>∃p u k d,x=.ref p/\s=[kV k,d]/\H p=some (.dK u)/\u.length<sizeLine/\(∀v,wd u k=some v->Q v H)/\(wd u k=none->Q d (upd H p (.dK (putK u k d))))
def DQ:WB X "dict.setdefault" AX:=by
 intro P s M H x N v S Q I f g h;obtain⟨p,K,k,d,rfl,rfl,c,y,l,j⟩:=h;cases f;obtain⟨U,u,rfl,i,b⟩:=g.two;obtain⟨z,C,J,B,E⟩:=MR I.hok c;refine call_meetsIn PySem.F.slot_dict_setdefault E.typeIs PySem.F.entry_dict_setdefault (PySem.F.args_dict_setdefault_3 _ _ _) (kt_meets_setdefault (Zj X.prog X.w) p (Mv i) C u) ⟨J,E,by rw[<- B.length];exact z,λv n=>?_,λL A D o=>?_⟩
 ·have r:=B.val k
  rw[n]at r;cases e:wd K k with|none=>rw[e]at r;exact r.elim|some a=>rw[e]at r;exact⟨a,H,I.tok _,r,l a e⟩
 ·have r:=B.val k
  rw[L]at r;cases e:wd K k with
  |some a=>rw[e]at r;exact r.elim|none=>
   exact⟨d,_,eN I (by rw[c];exact True.intro) o (let ⟨q,_,_,t,_⟩:=D;⟨q,t⟩) (eO (by have:=Et K k d;lia) C (B.put k b) D),b,j e⟩
noncomputable def XY (x:W)(A:Hx):Bool:=match x with
 |.ref n=>match A[n]? with|some (.dct _)=>true|_=>false
 |_=>false
def Up:W->W->W->Hx->R W:=λd k v A=>match d,Xr k with
 |.ref n,some k=>match A[n]? with
  |some (.dct oo)=>if oo.length<zM then(match yc k oo with|some w=>.ok w A|none=>.ok v (A.set n (.dct (oo++[(k,v)])))) else .bad
  |_=>.bad
 |_,_=>.bad
def N9 (g:W->W->W->Hx->R W)(a b c:Ev):Ev:=λf A=>(a f A).bind λx h=>if XY x h then(b f h).bind λy e=>(c f e).bind λz d=>g x y z d else .bad
def BV {A:Hx}{w:W}(S:zJ K φ A H)(q:RV K φ H w v)(e:XY w A=true):X1 K "dict" v H:=by
 unfold XY at e;cases w with
 |ref n=>
  dsimp only at e;cases E:A[n]? with
  |none=>rw[E]at e;cases e|some o=>cases o with|dct s=>obtain⟨p,u,rfl,_,h,_⟩:=S.dct q E;exact .inr (.inr (.inl ⟨rfl,u,h⟩))|_=>rw[E]at e;cases e
 |_=>cases e
end
def T6 (d:Addr)(o:Obj)(u:List (Key×V)):It:=
 ⟨λi H=>H d=some (.frz o (.dK u))/\i<u.length,λi H x h=>∃t p,u[i]? =some p/\H t=none/\x=.ref t/\h=upd H t (.tup [kV p.1,p.2]),λi H=>H d=some (.frz o (.dK u))/\u[i]? =none⟩
def gS {k:Key}(h:(Zj P w).is k u=true):RelV (kV k) u:=by
 rcases ZL h with ⟨i,t,rfl,rfl⟩|⟨x,t,rfl,rfl⟩
 ·exact⟨t,rfl⟩
 ·exact⟨t,rfl⟩
theorem KV.at:∀{U:List (Key×V)}{v:List (Key×Value)}{i:Nat}{p:Key×V},KV U v->U[i]? =some p->∃u,v[i]? =some (p.1,u)/\RelV p.2 u
 |q::U,_,0,p,.cons (b:=b) r t,e=>by simp at e;subst e;exact⟨b.2,by simp only[List.getElem?_cons_zero];rw[r.1],r.2⟩
 |q::U,_,i+1,p,.cons r t,e=>by
  obtain⟨u,H,h⟩:=KV.at t (by simpa using e)
  exact⟨u,by simpa using H,h⟩
section
def _root_.L2.Inv.frzD {d:Addr}{o:Obj}{u:List (Key×V)}{E:Nat}(I:Inv X n9 σ H s)(h:H d=some (.frz o (.dK u)))(p:∃e,o.data=.dict e E):∃vs,KV u vs/\s.heap.DictAt (Zj X.prog X.w) d vs E:=by
 obtain⟨a,z,x,vs,l,D⟩:=I.hok d _ h;obtain⟨f,v,j,n,t,c,r⟩:=D.dictAt;rw[a]at n;cases n;obtain⟨e,q⟩:=p;have b:=c;rw[q]at b;injection b with i g
 subst g;exact⟨vs,l,o,j,a,t,c,r⟩
end
def Bw:entryFor table "dict_itemiterator.__iter__"=some Builtin.«dict_keyiterator.__iter__»:=entryFor_alias (id' := "dict_keyiterator.__iter__") (by kernel_rfl)
 (by first|rfl|decide +kernel|(unfold String.splitOn;simp +decide [String.splitOnAux])) (by decide +kernel) (by kernel_rfl)
def E7 {K:Frag}(d it:Addr)(o:Obj)(Y:List (Key×V))(x:Nat)(g:∃M,o.data=.dict M x):
  Turn P w K (.Tuple oC kk ou) (T6 d o Y) [it] it (λi h=>∃ok c,IsItemIter h it d i Y.length x ok c) where
 mem:=by simp
 obj:=λi h ⟨ok,c,S⟩ b a=>by
  rw[cG.mp a];exact⟨_,S,λv e=>nomatch e⟩
 keep:=λi h N ⟨ok,c,S⟩ k=>⟨ok,c,k it (by simp) _ S⟩
 item:=by
  intro X n hw q t i Z s σ H E I hf S j;subst n hw q;obtain⟨ok,c,S⟩:=S;obtain⟨hd,hi⟩:=j;obtain⟨vs,U,D⟩:=I.frzD hd g;obtain⟨u,C,ru⟩:=KV.at U (i:=i) (p:=Y[i]) (by simp[hi])
  refine wpAny_pyNext_items_item (by rw[<- U.length];exact S) D C λkey h1 y L T J kp=>⟨_,rfl,wpAny_letOwnedTupleGo_items L λh2 l f=>?_⟩
  have lt:=aG S;refine⟨.ref s.heap.objs.size,upd H s.heap.objs.size (.tup [kV Y[i].1,Y[i].2]),?_,rfl,⟨s.heap.objs.size,Y[i],by simp[hi],I.hok.fresh (ax _),rfl,rfl⟩,⟨_,_,by rw[U.length];exact l⟩,λb a=>?_⟩
  ·refine I.spun (λb ob a r=>?_) hf (ax _) ?_
   ·exact f.extBut _ _ (λz=>a (by simp[z])) (kp b ob (λz=>a (by simp[z])) r)
   ·exact⟨by show 2<=sizeLine;decide,[key,u],.cons (gS y) (.cons ru .nil),_,(f.extBut _ _ (br lt) T),⟨rfl,rfl⟩,0,rfl⟩
  ·show upd H s.heap.objs.size _ b=none
   rw[qh (λz=>by rw[cG.mp a]at z;exact absurd lt (by rw[z];exact aZ _))];exact(hf b a).1
 done:=by
  intro X n hw q t i Z s σ H E I hf S j;subst n hw q;obtain⟨ok,c,S⟩:=S;obtain⟨hd,hi⟩:=j;obtain⟨vs,U,D⟩:=I.frzD hd g;have hn:vs[i]? =none:=by rw[List.getElem?_eq_none_iff]at hi ⊢;rw[<- U.length];exact hi
  exact wpAny_pyNext_items_end (I.ok.hd t) (by rw[<- U.length];exact S) D hn λh1 B=>⟨rfl,I.spun0 (λb ob a r=>B b ob (λz=>a (by simp[z])) r) hf⟩
 self:=λA i s Q E ⟨ok,c,S⟩ h=>by have T:s.TypeIs (.ref it) "dict_itemiterator":=⟨_,S,rfl⟩;refine wpAny_pyIter_slot T F.slot_dict_itemiterator_iter (wpAny_call_entry F.slot_dict_itemiterator_iter T Bw ?_ (F.args_dict_itemiterator_iter_1 _));exact cA ⟨_,rfl,"dict_itemiterator",_,T,F.slot_dict_itemiterator_next.lookup,h⟩
section
variable {a b:Expr}{m:Ev}
def gV (t:TE):TI:=λa H R=>t a H λx h=>∃d u,x=.ref d/\h d=some (.dK u)/\∀o,R (T6 d o u) (upd h d (.frz o (.dK u)))
def CO {T:TE}(p:PE X a T)(g:attributeBase a "items" X.env (eval a X.env)=eval a X.env)(f:(oz.endLine==oh.line)=true):
  PI X (.Tuple oC kk ou) (.Call (.Attribute a "items" oz) [] [] oh) (gV T):=by
 intro P s C H R I h;refine wpAny_Call_method0_late g f (zT (p P s C H _ I h) λv S ⟨x,M,l,n,d,U,L,K,q⟩=>?_);subst L;cases n;obtain⟨z,e,J,A,D⟩:=MR l.hok K;obtain⟨o,j,y,c,B,t,r⟩:=id D;refine⟨"dict","dict.items",PySem.F.plainAttrs_dict,PySem.F.slot_dict_items,PySem.F.type_dict_items,D.typeIs,λb E=>by cases E;exact⟨o,c,B.2.1⟩,Calls.callWith_builtin rfl (PySem.evalArgs_none ?_)⟩
 refine call_meetsIn PySem.F.slot_dict_items D.typeIs PySem.F.entry_dict_items (PySem.F.args_dict_items_1 _) (meets_dict_items (Zj X.prog X.w) d e) ⟨⟨J,D⟩,?_⟩;have i:Inv X P C (upd M d (.frz o (.dK U))) { S with heap:=S.heap.push { cls:=.type "dict_items",data:=.fields #[.ref d] } }:=(l.write (o:=.frz o (.dK U)) (by rw[K];exact True.intro) (.inl rfl) (λ_ _ _ q=>q) ⟨o,c⟩ ⟨c,z,e,J,A,D⟩).kept λb ob q=>af _ q
 refine wpAny_pyIter_items ⟨_,ay _ rfl,rfl,rfl⟩ (⟨o,j,af _ c,B,t,r⟩) ?_;refine⟨_,[_],_,_,_,rfl,i.kept λb ob q=>af _ q,E7 d _ o U y ⟨j,t⟩,⟨.none,.none,?_⟩,λb u=>?_,q o⟩
 ·rw[A.length];exact ay _ rfl
 ·have E:=cG.mp u
  subst E;exact i.fpOk (ax _) (i.hok.fresh (ax _))
noncomputable def kW:Key->W
 |.inl i=>.int i|.inr x=>.str x
def Wt (K:List (Key×W)):jf:=⟨λ_ i=>some (K[i]?.map λp=>.tup [kW p.1,p.2]),K.length⟩
def US (m:Ev):Ei:=λa A=>match A with
 |[]=>(m a []).bind λw b=>match w,b with|.ref 0,[.dct oo]=>if qW (oo.map (·.2)) then .ok (Wt oo) [] else .bad|_,_=>.bad
 |_=>.bad
def hA {K:Frag}{d:Addr}{o:Obj}{U:List (Key×V)}{s:List (Key×W)}(L:H d=some (.frz o (.dK U)))(E:U.map (·.1)=s.map (·.1))(j:zB K φ H (s.map (·.2)) (U.map (·.2)))(n:qW (s.map (·.2))=true):
  QV K φ H (Wt s) (T6 d o U):=λi a A C lw S=>by
 unfold Wt;dsimp only;have h:=lw.fz d o _ L;have l:=by have:=congrArg List.length E;simpa using this
 cases e:s[i]? with
 |none=>
  refine⟨λ_ z=>(by cases z),λ_=>⟨h,?_⟩⟩
  rw[List.getElem?_eq_none_iff]at e ⊢;rw[l];exact e
 |some p=>
  refine⟨λu z=>?_,λz=>(by cases z)⟩
  cases z;refine⟨⟨h,by rw[l];exact((cD.mp e).1)⟩,λx Q ⟨t,q,b,c,N,g⟩=>?_⟩
  subst N g;have J:=by
   have D:(U.map (·.1))[i]? =some q.1:=by simp[b]
   rw[E]at D;simp[e]at D;exact D.symm
  have P:(s.map (·.2))[i]? =some p.2:=by simp[e]
  obtain⟨v,I,M⟩:=(j.nrm lw.tp lw.fz n).get P;have f:=by simp[b]at I;exact I.symm
  subst f;rw[J];have r:RV K a A (kW p.1) (kV p.1):=by cases p.1<;>rfl
  obtain⟨y,w,B⟩:=QA S c (.cons r (.one M));exact⟨y,w,B⟩
end
mutual
noncomputable def W.beq:W->W->Bool
 |.non,.non=>true|.bl a,.bl b=>a==b|.int a,.int b=>decide (a=b)|.str a,.str b=>decide (a=b)|.tup a,.tup b=>Wh a b|_,_=>false
noncomputable def Wh:List W->List W->Bool
 |[],[]=>true|a::as,b::bs=>a.beq b&&Wh as bs|_,_=>false
end
mutual
theorem W.eq_of:∀{a b:W},a.beq b=true->a=b
 |.non,.non,_=>rfl|.bl a,.bl b,h=>by have H:(a==b)=true:=h;rw[aL]at H;rw[H]|.int a,.int b,h=>by have H:decide (a=b)=true:=h;rw[ag]at H;rw[H]|.str a,.str b,h=>by have H:decide (a=b)=true:=h;rw[ag]at H;rw[H]|.tup a,.tup b,h=>by have H:Wh a b=true:=h;rw[Mg H]|.non,.bl _,h=>nomatch h|.non,.int _,h=>nomatch h|.non,.str _,h=>nomatch h|.non,.tup _,h=>nomatch h|.non,.ref _,h=>nomatch h
 |.bl _,.non,h=>nomatch h|.bl _,.int _,h=>nomatch h|.bl _,.str _,h=>nomatch h|.bl _,.tup _,h=>nomatch h|.bl _,.ref _,h=>nomatch h
 |.int _,.non,h=>nomatch h|.int _,.bl _,h=>nomatch h|.int _,.str _,h=>nomatch h|.int _,.tup _,h=>nomatch h|.int _,.ref _,h=>nomatch h
 |.str _,.non,h=>nomatch h|.str _,.bl _,h=>nomatch h|.str _,.int _,h=>nomatch h|.str _,.tup _,h=>nomatch h|.str _,.ref _,h=>nomatch h
 |.tup _,.non,h=>nomatch h|.tup _,.bl _,h=>nomatch h|.tup _,.int _,h=>nomatch h|.tup _,.str _,h=>nomatch h|.tup _,.ref _,h=>nomatch h
 |.ref _,.non,h=>nomatch h|.ref _,.bl _,h=>nomatch h|.ref _,.int _,h=>nomatch h|.ref _,.str _,h=>nomatch h|.ref _,.tup _,h=>nomatch h|.ref _,.ref _,h=>nomatch h
theorem Mg:∀{a b:List W},Wh a b=true->a=b
 |[],[],_=>rfl|a::as,b::bs,h=>by have H:(a.beq b&&Wh as bs)=true:=h;rw[ak]at H;rw[W.eq_of H.1,Mg H.2]
 |[],_::_,h=>nomatch h
 |_::_,[],h=>nomatch h
end
section
variable {K:Frag}
def FD (K:Frag)(x:Str)(s:Stmt):Prop:=∃f d,kx K x x s f d/\nsIn K mainGlobals x=some (some (.ref f))
def zew {s:Stmt}{b:Value}{o A:cx}{kV d p C ct:Value}(a:nsIn K mainGlobals x=some (some (.ref f)))
  (l:K.lookup f=some ⟨b,o,.func (fnOf x x (gu s) (jJ s) (zY s) .none kV d p A C ct),oF⟩)(c:codeIn K C x=true)(k:keepIn K (.ref f)=true):FD K x s:=⟨f,_,eJ l c k,a⟩
def CD (K:Frag)(x:Str)(i:Int):Prop:=∃t,nsIn K mainGlobals x=some (some (.int i t))
def zd9 {i:Int}{t:Tok}(a:nsIn K mainGlobals x=some (some (.int i t))):CD K x i:=⟨t,a⟩
end
open PySem PySem.Spec PyProof.Rows L2 Mi
@[irreducible] def zw (X:Cx)(x:XR)(e:Expr)(m:Ev):Prop:=Mi.SE X x e m
def G7:@zw=@Mi.SE:=by delta zw;rfl
@[irreducible] def gG (X:Cx)(x:XR)(e:ck)(m:Ea):Prop:=Mi.SA X x e m
@[irreducible] def yx (X:Cx)(x:XR)(e:Expr)(m:Ev):Prop:=Mi.ST X x e m
@[irreducible] def gX (X:Cx)(x:XR)(e:Expr)(m:Ev):Prop:=Mi.SW X x e m
@[irreducible] def yZ (X:Cx)(x:XR)(s:Stmt)(m:Ex):Prop:=Mi.SS X x s m
@[irreducible] def yv (X:Cx)(x:XR)(s:cy)(m:Ex):Prop:=Mi.J4 X x s m
@[irreducible] def kO (X:Cx)(x:XR)(t e:Expr)(m:Ei):Prop:=Mi.SI X x t e m
@[irreducible] def gf (X:Cx)(t:Expr)(m:Tg):Prop:=Mi.SG X t m
@[irreducible] def Qd (X:Cx)(x:XR)(e:Expr)(m:jH):Prop:=Mi.SF X x e m
@[irreducible] def wI (X:Cx)(x:XR)(e:Expr)(m:jH):Prop:=Mi.SQ X x e m
@[irreducible] def ZA (X:Cx)(e:ck)(m:Ev):Prop:=Mi.WN X e m
@[irreducible] def g7 (X:Cx)(e:Expr)(g:List Comprehension)(s:Scope)(c:Pos)(d:Nat)(E:Em):Prop:=Mi.SM X e g s c d E
section
variable {xr:XR}{K:Frag}{a b c:Expr}{es:ck}{m ma mb mc:Ev}{m1 m2:Ex}{st:Stmt}{o7:cy}
def zX:@zw=@Mi.SE/\@gG=@Mi.SA/\@yx=@Mi.ST/\@gX=@Mi.SW/\@yZ=@Mi.SS/\@yv=@Mi.J4/\@kO=@Mi.SI/\@gf=@Mi.SG/\@Qd=@Mi.SF/\@wI=@Mi.SQ/\@ZA=@Mi.WN/\@g7=@Mi.SM:=by with_unfolding_all exact⟨rfl,rfl,rfl,rfl,rfl,rfl,rfl,rfl,rfl,rfl,rfl,rfl⟩
def zf {M:Ea}(a:zw X xr e ma)(H:gG X xr es M)(h:qR e es X:=by rfl):gG X xr (e::es) (zi ma M):=by simp only[zX]at*;exact Mi.Ni a H h
def zo:gG X xr [] zq:=by simp only[zX]at*;exact Mi.N4
def qB (H:zw X xr a ma)(h:zw X xr b mb):zw X xr (.BinOp a .Add b og) (zr qw ma mb):=by simp only[zX]at*;exact Ja (dP.or (en.or (AG.or eG))) fC fD H h
def Qt {q:jH}(H:X.calm=true)(b:X.mg "all"=none)(a:wI X xr e q)(h:Gl X "all":=by rfl)(c:qR e [] X:=by rfl):
  zw X xr (.Call (.Name "all" p) [e] [] og) (mQ Wk q):=by
 simp only[zX]at*;exact Wa (CC H) fx fy b (by rfl) a h (by decide) (by decide) c (by rfl)
def Zl {r:ck}(e:zw X xr a ma)(d:zw X xr (.BoolOp .And (b::r) og) mb):zw X xr (.BoolOp .And (a::b::r) og) (gT ma mb):=by
 simp only[zX]at*;exact PE.imp (dc e d) λp H Q ⟨o,A,i,S,g,h⟩=>by
   refine tM.go S g (zW.mp h) λw n c j v f l s q=>?_;cases w with
   |bl k=>
    refine⟨k,q,?_⟩;cases k with|true=>rw[aj rfl];exact⟨c,n,i,s,g.mono l,qx f (λ_ _ z=>z.mono l) λ_ _ z=>z.mono l⟩|false=>rw[av aP];exact f c j _ l s rfl
   |non=>cases f|int _=>cases f|str _=>cases f|tup _=>cases f|ref _=>cases f|clo _ _ _=>cases f|xc _=>cases f
def jj {i j}:zw X xr (.Constant (.bool i) j og) (zE (.bl i)):=by simp only[zX]at*;exact PE.imp cR λb H Q ⟨a,A,c,S,r,h⟩=>h a H _ .refl S rfl
def kL {g:W->W->Hx->R W}(h:gx X op g)(c:zw X xr a ma)(H:zw X xr b mb)(e:op≠.In:=by decide)(d:op≠.NotIn:=by decide):zw X xr (.Compare a [op] [b] og) (zr g ma mb):=by simp only[zX]at*;exact let ⟨r,i,f,A⟩:=h.ex;NI i f A c H (h.mks b e d)
def UN {o:CmpOp}{g d:W->W->Hx->R W}(h:gx X op g)(i:gx X o d)(f:zw X xr a ma)(e:zw X xr b mb)(H:zw X xr c mc)(p:lastMarks [op,o] [b,c]=false:=by with_unfolding_all rfl):
  zw X xr (.Compare a [op,o] [b,c] og) (yG g d ma mb mc):=by
 simp only[zX]at*;exact let ⟨r,s,q,A⟩:=h.ex;let ⟨n,l,j,B⟩:=i.ex;BO s q A l j B f e H p
def zN {k:Nat}{f:Fn}{M:Ea}(F:qv X.prog X.w X.K X.mg X.base k x n f)(r:jb k X.A)(s:gG X yd (e::es) M)(g:QN M n:=by repeat' (first|exact zx|refine zj ?_))(j:Gl X x:=by rfl)
  (d:yy x:=by decide)(U:qR e es X:=by rfl)(l:kS og es X:=by rfl):
  zw X yd (.Call (.Name x p) (e::es) [] og) (zR f M):=by
 simp only[zX]at*;obtain⟨y,fd,ps,F,T,i,o⟩:=F;refine PE.imp (Np F r j T i o .nil eI s d U l) λY H Q ⟨N,A,C,S,P,h⟩=>?_;have a:=zW.mp h;refine⟨N,A,C,S,P,?_⟩;cases E:M C A with
 |ok I D=>
  rw[E]at a;intro c H1 Z J u q;rw[bq];exact⟨(by rw[<- q.length];exact g C A I D E),c,D,I,u,q,qx a (λ_ _ z=>z.mono J) λx B z b v L t=>(z b v (J.trans L) t).elim⟩
 |exc x D=>rw[E]at a;exact a|bad=>rw[E]at a;exact a
def hE {g:W->W->Hx->R W}(h:Xt X op g)(c:zw X xr a ma)(H:zw X xr b mb)(d:behindInMarks op b=false:=by rfl):zw X xr (.Compare a [op] [b] og) (zr g ma mb):=by simp only[zX]at*;exact let ⟨r,f,e,A⟩:=h.ex;NI f e A c H d
def KH:zw X xr (.Dict [] [] og) Wj:=by
 simp only[zX]at*;exact PE.imp AF λc H Q ⟨b,A,d,S,r,h⟩ p a=>by obtain⟨l,s⟩:=S.alloc (o:=.dct []) a ⟨[],jD,rfl,.nil⟩;exact h _ _ _ l s ⟨p,rfl,by rw[<- S.len];simp⟩
def Ce {k:Nat}(u:jb k X.A)(y:zw X xr a ma)(x:zw X xr b mb)(t:TN b:=by intro _ _;rfl):zw X xr (.Subscript a b og) (zr U6 ma mb):=by
 simp only[zX]at*;exact PE.imp (AJ (eK u) y x t) λY H Q ⟨U,A,Z,S,J,h⟩=>by
   refine tM.go S J (zW.mp h) λw A1 d H1 v M L B g=>?_;refine tM.go B (J.mono L) (qx (zW.mp M) (λ_ _ z=>z) λ_ _ z=>z.mono L) λf D c C v2 I l s q=>?_;unfold U6 at I;cases w with
   |ref n=>
    cases f with
    |int i=>
     obtain rfl:=q;dsimp only[Xr]at I;cases e:D[n]? with
     |none=>rw[e]at I;exact I.elim|some o=>cases o with
      |dct K=>
       rw[e]at I;dsimp only at I;obtain⟨p,us,rfl,f1,T,P,N⟩:=s.dct (g.mono l) e;cases E:yc (.inl i) K with
       |none=>rw[E]at I;exact I.elim|some w=>
        rw[E]at I;obtain⟨v,j,r⟩:=(VF (.inl i) P N).1 w E;refine⟨p,v,rfl,?_,I c C v (L.trans l) s r⟩;rw[<- j];exact Y7.k (k:=.inl i) T
      |_=>rw[e]at I;exact I.elim
    |_=>exact I.elim
   |_=>exact I.elim
def Gu {i:Int}{t:Tok}(g:Gl X x)(b:X.mg x=some (.int i t))(d:yy x:=by decide):zw X xr (.Name x og) (zE (.int i)):=by simp only[zX]at*;exact PE.imp (cU g b (v:=.int i) ⟨t,rfl⟩ d) λc H Q ⟨a,A,e,S,r,h⟩=>h a H _ .refl S rfl
def hG {c:Expr}(e:yx X xr c mc)(g:zw X xr a ma)(f:zw X xr b mb):zw X xr (.IfExp c a b og) (fc mc ma mb):=by
 simp only[zX]at*;exact PE.imp (CL e g f) λp H Q ⟨o,A,j,S,r,h⟩=>by
   refine tT.go S r (zW.mp h) λw n i=>?_;cases w with
   |bl k=>
    refine⟨k,rfl,λd q l s=>?_⟩;cases k with|true=>rw[aj rfl];exact⟨d,n,j,s,r.mono l,qx i (λ_ _ z=>z.mono l) λ_ _ z=>z.mono l⟩|false=>rw[av aP];exact⟨d,n,j,s,r.mono l,qx i (λ_ _ z=>z.mono l) λ_ _ z=>z.mono l⟩
   |non=>cases i|int _=>cases i|str _=>cases i|tup _=>cases i|ref _=>cases i|clo _ _ _=>cases i|xc _=>cases i
def zm {i j}:zw X xr (.Constant (.int i) j og) (zE (.int i)):=by simp only[zX]at*;exact PE.imp cQ λb H Q ⟨a,A,c,S,r,h⟩=>h a H _ .refl S rfl
def kJ (t:Ty){P:Pos}(j:X.mg "isinstance"=none)(b:X.mg x=none)(d:bootBuiltins x=some (.type t.nm))(f:zw X xr e m)(g:Gl X "isinstance":=by rfl)(c:Gl X x:=by rfl)
  (n:x ≠ "__name__":=by decide)(o:yy x:=by decide)
  (i:starEach [e,.Name x P] X.env=(false,eval e X.env)::starEach [.Name x P] X.env:=by rfl)(u:(backTo og (starEach [.Name x P] X.env)).any (·.1)=false:=by rfl):
  zw X xr (.Call (.Name "isinstance" p) [e,.Name x P] [] og) (wg t m):=by
 simp only[zX]at*;exact PE.imp (Qs fq g j (by rfl) (qX f (qX (GK c b d (v:=.ty t.nm) rfl n o) jQ) i) (by decide) (by decide) i u) λC H Q ⟨B,A,D,S,r,h⟩=>by
   refine tM.go S r (zW.mp h) λw z a y v i l s q=>?_;cases E:qZ w z with
   |none=>rw[E]at i;exact i.elim|some T=>
    rw[E]at i;exact⟨v,T,t,rfl,OC s q E,i a y _ l s rfl⟩
def qu (c:zw X xr a ma)(H:zw X xr b mb)(h:Nv b:=by intro _ _;rfl):zw X xr (.Subscript a b og) (zr qm ma mb):=by simp only[zX]at*;exact PE.imp (et eA c H h) (zr.read ft fv)
def yf {q:jH}(a:X.mg "len"=none)(H:wI X xr e q)(h:Gl X "len":=by rfl)(b:qR e [] X:=by rfl):
  zw X xr (.Call (.Name "len" p) [e] [] og) (mQ ja q):=by
 simp only[zX]at*;exact Wa FI (λ_ _=>jL) AL a (by rfl) H h (by decide) (by decide) b (by rfl)
def jv {q:jH}(h:Qd X xr e q):zw X xr e (yb q):=by simp only[zX]at*;exact PE.imp h yb.read
def Dk {P C:Pos}(t:X.calm=true)(I:X.mg "list"=none)(e:X.mg "range"=none)(u:zw X xr a ma)(o:Gl X "list":=by rfl)(f:Gl X "range":=by rfl)(s:starEach [a] X.env=[(false,eval a X.env)]:=by rfl)
  (b:starEach [.Call (.Name "range" P) [a] [] C] X.env=(false,eval (.Call (.Name "range" P) [a] [] C) X.env)::starEach [] X.env:=by rfl):
  zw X xr (.Call (.Name "list" p) [.Call (.Name "range" P) [a] [] C] [] og) (Us ma):=by
 simp only[zX]at*;exact PE.imp (Yv (EF t) o I (by rfl) (qX (fU f e (qX u jQ (by rw[s];rfl)) s) jQ b) (by decide) (by decide) b (by rfl)) λN H Q ⟨M,A,T,S,E,h⟩=>by
   refine tM.go S E (zW.mp h) λw U d J v D L z q=>?_;cases w with
   |int j=>
    obtain rfl:=q;dsimp only at D
    by_cases c:(jA j&&decide (j.toNat<=zM))=true
    ·rw[aj c]at D
     rw[ak,ag]at c;refine⟨j,rfl,λp g=>⟨p,j,rfl,jD,Q3 c.1,Qp c.2,λl n=>?_⟩⟩;have r:=by
      have:=(zB.ints (K:=X.K) (φ:=d) (H:=upd J p (.rng 0 j)) (ns:=(List.range j.toNat).map λ(i:Nat)=>(i:Int)) (vs:=Wi j.toNat)).mpr (by unfold Wi;simp)
      rw[aU]at this;exact this
     obtain⟨y,x,B⟩:=Je (z.lay g) n r;exact D _ _ _ ((L.trans (Le.new g)).trans y) x B
    ·rw[av c]at D;exact D.elim
   |_=>exact D.elim
def qt {M:Ea}(h:gG X xr es M)(H:QN M n)(c:n<=zM:=by decide):zw X xr (.List es og) (qF M):=by simp only[zX]at*;exact fe h λb A w a e=>by rw[H b A w a e];exact Qp c
def Q4 {q:jH}(H:X.calm=true)(b:X.mg "max"=none)(a:wI X xr e q)(h:Gl X "max":=by rfl)(c:qR e [] X:=by rfl):
  zw X xr (.Call (.Name "max" p) [e] [] og) (mQ wD q):=by
 simp only[zX]at*;exact Wa (Cy H) fM fO b (by rfl) a h (by decide) (by decide) c (by rfl)
def OI (e:X.calm=true)(s:X.mg "min"=none)(n:zw X xr a ma)(g:zw X xr b mb)(l:Gl X "min":=by rfl)(w:qR a [b] X:=by rfl)(t:qR b [] X:=by rfl)(h:kS og [b] X:=by rfl):
  zw X xr (.Call (.Name "min" p) [a,b] [] og) (zr U8 ma mb):=by
 simp only[zX]at*;exact Tf (DI e) JQ (λr A H x y u v Q S d c p=>by
   obtain⟨i,j,o,E,q⟩:=JK (f:=λi j=>.int (if j<i then j else i)) (λ_ _ _ _=>rfl) r A H x y u v Q S d c p;subst o;subst E;exact⟨i,j,rfl,q⟩) s (by rfl) n g l (by decide) (by decide) w t h
def JE (H:zw X xr a ma)(h:zw X xr b mb):zw X xr (.BinOp a .Mod b og) (zr YX ma mb):=by simp only[zX]at*;exact Ja dS Tn (UJ fj λ_ _ _ _=>rfl) H h
def kA (H:zw X xr a ma)(h:zw X xr b mb):zw X xr (.BinOp a .Mult b og) (zr jE ma mb):=by simp only[zX]at*;exact Ja (dR.or eH) fF fG H h
def gr (h:zw X xr a ma):zw X xr (.UnaryOp .USub a og) (jN kE ma):=by
 simp only[zX]at*;exact fb dW (λx A=>by unfold kE;split;exact jL;exact qP) (λb A H x u Q S q p=>by
  cases u with|int i=>obtain rfl:=q;exact⟨i,rfl,p b H _ .refl S rfl⟩|_=>exact p.elim) h
def wt {j}:zw X xr (.Constant .none j og) (zE .non):=by simp only[zX]at*;exact PE.imp cS λb H Q ⟨a,A,c,S,r,h⟩=>h a H _ .refl S rfl
def OS (c:zw X xr a ma):zw X xr (.UnaryOp .Not a og) (jF ma):=by
 simp only[zX]at*;exact PE.imp (de c) λg H Q ⟨f,A,i,S,r,h⟩=>by
   refine tM.go S r (zW.mp h) λw j b e v d l s q=>?_;cases w with|bl k=>exact⟨k,q,d b e _ l s rfl⟩|non=>cases d|int _=>cases d|str _=>cases d|tup _=>cases d|ref _=>cases d|clo _ _ _=>cases d|xc _=>cases d
def ZQ {op}(h:zw X xr a ma):zw X xr (.BoolOp op [a] og) ma:=by simp only[zX]at*;exact da h
def EE (ho:zw X xr a ma)(he:zw X xr b mb)(hf:zw X xr c mc)(h1:qR b [c] X:=by rfl)(h2:qR c [] X:=by rfl)
  (j:attributeBase a "setdefault" X.env (eval a X.env)=eval a X.env:=by rfl)
  (q:((backTo oh (starEach [b,c] X.env)).all (λx=>!x.1)&&(backToKw oh (keywordEach [] X.env)).all (λx=>x.1.isSome)
   && decide ([b,c].length+([]:cw).length+(if ([]:cw).isEmpty then 0 else 1)<30))=true:=by rfl)(g:(oz.endLine==oh.line)=true:=by rfl)(J:kS oh [c] X:=by rfl):
  zw X xr (.Call (.Attribute a "setdefault" oz) [b,c] [] oh) (N9 Up ma mb mc):=by
 simp only[zX]at*;exact PE.imp (Mz PySem.F.plainAttrs_dict PySem.F.slot_dict_setdefault PySem.F.type_dict_setdefault DQ ho (qX he (qX hf jQ h2) h1) j q g h1 J) λσ H Q ⟨φ,A,ρ,S,re,h⟩=>by
   refine tM.go S re (zW.mp h) λw A1 o5 H1 v h1 l1 S1 Y=>?_
   by_cases hd:XY w A1=true
   ·rw[aj hd]at h1
    refine⟨BV S1 Y hd,?_⟩;refine tM.go S1 (re.mono l1) (qx (zW.mp h1) (λ_ _ z=>z) λ_ _ z=>z.mono l1) λu A2 φ2 H2 v2 h2 l2 S2 q2=>?_;have l:=l1.trans l2;refine tM.go S2 (re.mono l) (qx (zW.mp h2) (λ_ _ z=>z) λ_ _ z=>z.mono l) λw3 A3 f N t d Z M U=>?_;have L:=l.trans Z;unfold Up at d;cases w with
    |ref n=>cases u with
     |int i=>
      obtain rfl:=q2;dsimp only[Xr]at d;cases r:A3[n]? with
      |none=>rw[r]at d;exact d.elim|some o=>cases o with
       |dct s=>
        rw[r]at d;dsimp only at d;obtain⟨p,us,rfl,f1,g1,g2,g3⟩:=M.dct ((Y.mono l2).mono Z) r;have hlen:=by have:=congrArg List.length g2;simpa using this
        by_cases D:s.length<zM
        ·rw[aj D]at d
         have C:=VF (.inl i) g2 g3;refine⟨p,us,.inl i,t,rfl,rfl,g1,?_,λv' I=>?_,λhn=>?_⟩
         ·rw[hlen]
          have:sizeLine=16777216:=sizeLine_eq
          unfold zM at D;lia
         ·cases E:yc (.inl i) s with
          |none=>rw[C.2 E]at I;cases I|some y=>
           rw[E]at d;obtain⟨B,e,T⟩:=C.1 y E;rw[I]at e;cases e;exact d f N _ L M T
         ·cases E:yc (.inl i) s with
          |some y=>obtain⟨B,e,T⟩:=C.1 y E;rw[hn]at e;cases e|none=>
           rw[E]at d;rw[CJ t hn];have ln:Le X.K f N f (upd N p (.dK (us++[(.inl i,t)]))):=Le.upd f1 (λxs z=>by rw[g1]at z;cases z) (λ_ _ z=>by rw[g1]at z;cases z)
           obtain⟨P,u⟩:=M.write (o':=.dct (s++[(.inl i,w3)])) r rfl rfl f1 ⟨us++[(.inl i,t)],jD,by simp[g2],by rw[aS,aS];exact(g3.mono ln).append (.one (U.mono ln))⟩
           exact d _ _ _ (L.trans P) u (U.mono P)
        ·rw[av D]at d;exact d.elim
       |_=>rw[r]at d;exact d.elim
     |_=>exact d.elim
    |_=>exact d.elim
   ·rw[av hd]at h1;exact h1.elim
def ZR (H:zw X xr a ma)(h:zw X xr b mb):zw X xr (.BinOp a .Sub b og) (zr QM ma mb):=by simp only[zX]at*;exact Ja dQ JQ (JK λ_ _ _ _=>rfl) H h
def Ub {q:jH}(H:X.calm=true)(b:X.mg "sum"=none)(a:wI X xr e q)(h:Gl X "sum":=by rfl)(c:qR e [] X:=by rfl):
  zw X xr (.Call (.Name "sum" p) [e] [] og) (mQ QO q):=by
 simp only[zX]at*;exact Wa (D8 H) fN AK b (by rfl) a h (by decide) (by decide) c (by rfl)
def zP {x1}{M:Ea}(h:gG X xr es M)(l:QN M n)(j:n<=zM:=by decide):zw X xr (.Tuple es x1 og) (qc M):=by
 simp only[zX]at*;exact PE.imp (Nx h) λu H Q ⟨i,A,g,S,r,h⟩=>by
   have a:=zW.mp h;cases e:M g A with
   |ok w b=>
    rw[e]at a;refine⟨i,A,g,S,r,?_⟩;rw[e];intro c y v L s q;refine⟨by rw[<- q.length,l g A w b e];exact Qp j,λp d=>?_⟩
    obtain⟨t,o,f⟩:=QA s d q;exact a _ _ _ (L.trans t) o f
   |exc x b=>rw[e]at a;refine⟨i,A,g,S,r,?_⟩;rw[e];exact a|bad=>rw[e]at a;exact a.elim
def ZN {q:jH}(a:X.mg "tuple"=none)(H:wI X xr e q)(h:Gl X "tuple":=by rfl)(b:qR e [] X:=by rfl):
  zw X xr (.Call (.Name "tuple" p) [e] [] og) (mQ Z6 q):=by
 simp only[zX]at*;exact fw HK (λ_ _=>jL) AY a (by rfl) H h (by decide) (by decide) b (by rfl)
def hH (i:Nat)(b:X.N[i]? =some x:=by rfl)(a:Sd X.env.scope x:=by first|exact Or.inl rfl|exact Or.inr (Or.inl rfl)|exact Or.inr (Or.inr rfl))(g:yy x:=by decide)
  (d:(x==("__classdict__":Str))=false:=by decide):zw X xr (.Name x og) (zA i):=by
 simp only[zX]at*;exact PE.imp (cP b a g d) λn H Q ⟨c,A,f,S,r,h⟩=>by
  unfold zA at h;cases e:f[i]? with
  |none=>rw[e]at h;cases h|some o=>cases o with
   |none=>rw[e]at h;cases h|some w=>
    rw[e]at h;obtain⟨v,l,j⟩:=r.get i w e;exact⟨v,l,h c H v .refl S j⟩
def CN {i:Expr}{j:Ei}{t:Tg}{M:Ev}{e:Em}(l:Nat)(C:cb)(c:X.calm=true)(S:Zi X sc)(p:QF X.N N sc l C=true)(w:kO X xr tg i j)
  (n:∀s H f,gf (jR X N sc s H f yI) tg t/\ZA (jR X N sc s H f yI) ifs M/\g7 (jR X N sc s H f yI) o6 (⟨tg,i,ifs,0⟩::gs) sc og 0 e)
  (d:∀a,gs[0]? =some a->a.is_async=0:=by intro _ h;cases h<;>rfl)
  (b:∀x,foldedSetIterable i X.env x=pure x:=by intro _;rfl):Qd X xr (.ListComp o6 (⟨tg,i,ifs,0⟩::gs) sc og) (qC l C j t M e):=by
 simp only[zX]at*;exact PE.imp (eZ (g:=tG X.K t) (ti:=tT X.K yd M) (tm:=tE X.K e) c S p d w n b) qC.read
def wL (i j:Nat){y:Str}{q:Pos}{k:Nat}(n:X.calm=true)(h:X.N.Nodup)(D:X.N[i]? =some x:=by rfl)(f:Loc X.env.scope x:=by first|exact Or.inl rfl|exact Or.inr rfl)(I:QR X x:=by first|exact .inl rfl|exact .inr rfl)
  (g:X.N[j]? =some y:=by rfl)(d:Loc X.env.scope y:=by first|exact Or.inl rfl|exact Or.inr rfl)(l:QR X y:=by first|exact .inl rfl|exact .inr rfl):gf X (.Tuple [.Name x p,.Name y q] k og) (yt i j):=by
 simp only[zX]at*;exact PG.imp (UC n (YB (YK h D f I) (YB (YK h g d l) Uu))) λv P H Q ⟨M,A,T,w,b,S,C,c,e,K⟩=>by
   unfold yt at e
   split at e
   ·rename_i o Y
    have E:=aB e;subst E;obtain⟨a,U,rfl,s,B⟩:=c;obtain⟨z,t,rfl,L,u,r,rfl,J,rfl⟩:=B;exact⟨a,[z,u],rfl,s,rfl,z,[u],rfl,u,[],rfl,rfl,K _ ((C.set L).set J)⟩
   ·cases e
def DL (i j k:Nat){y z:Str}{q r pp:Pos}{s:Nat}(f:X.calm=true)(c:X.N.Nodup)(hi:X.N[i]? =some x:=by rfl)(B:Loc X.env.scope x:=by first|exact Or.inl rfl|exact Or.inr rfl)(hf:QR X x:=by first|exact .inl rfl|exact .inr rfl)
  (E:X.N[j]? =some y:=by rfl)(u:Loc X.env.scope y:=by first|exact Or.inl rfl|exact Or.inr rfl)(J:QR X y:=by first|exact .inl rfl|exact .inr rfl)
  (D:X.N[k]? =some z:=by rfl)(t:Loc X.env.scope z:=by first|exact Or.inl rfl|exact Or.inr rfl)(I:QR X z:=by first|exact .inl rfl|exact .inr rfl):
  gf X (.Tuple [.Name x p,.Tuple [.Name y q,.Name z r] s pp] n og) (UA i j k):=by
 simp only[zX]at*;exact PG.imp (UC f (YB (YK c hi B hf) (YB (UC f (YB (YK c E u J) (YB (YK c D t I) Uu))) Uu))) λv σ H Q ⟨φ,A,ρ,w,g,S,re,o,e,kk⟩=>by
   unfold UA at e
   split at e
   ·rename_i P Y Z
    have M:=aB e;subst M;obtain⟨a,vs,rfl,C,rs⟩:=o;obtain⟨v1,r1,rfl,h1,v2,r2,rfl,h2,rfl⟩:=rs;obtain⟨a2,l,rfl,h,b⟩:=h2;obtain⟨d,U,rfl,L,v4,T,rfl,K,rfl⟩:=b;exact⟨a,[v1,.ref a2],rfl,C,rfl,v1,[.ref a2],rfl,.ref a2,[],rfl,a2,[d,v4],rfl,h,rfl,d,[v4],rfl,v4,[],rfl,rfl,rfl,kk _ (((re.set h1).set L).set K)⟩
   ·cases e
def jK (i:Nat)(b:X.N.Nodup)(c:X.N[i]? =some x:=by rfl)(h:Loc X.env.scope x:=by first|exact Or.inl rfl|exact Or.inr rfl)(f:QR X x:=by first|exact .inl rfl|exact .inr rfl):gf X (.Name x og) (qa i):=by
 simp only[zX]at*;exact PG.imp (YK b c h f) λv g H Q ⟨d,A,j,w,a,S,r,q,e,k⟩=>by have E:=aB e;subst E;exact k _ (r.set q)
def qL (h:zw X xr e m):kO X xr tg e (qJ m):=by
 simp only[zX]at*;exact PI.imp (fh h) λσ H T ⟨φ,A,ρ,S,re,h⟩=>by
  refine tM.go S re (zW.mp h) λw A1 d H1 v U l1 L Q=>?_;unfold Wz at U;cases e:zK w A1 with
  |none=>rw[e]at U;exact U.elim|some ws=>
   rw[e]at U;cases w with
   |tup Z=>
    obtain⟨a,Y,rfl,j,q⟩:=Q;refine⟨a,rfl,.inr ⟨⟨Y,j⟩,U d H1 _ l1 L λi b g c lw s=>⟨λM E=>?_,λE=>?_⟩⟩⟩
    ·have f:=aB E
     obtain⟨y,l,C⟩:=(q.monoW lw).get f;refine⟨⟨Y,y,lw.tp _ _ j,l⟩,λx N z=>?_⟩;obtain⟨J,I⟩:=z;subst J;have p:=I Y (lw.tp _ _ j);rw[l]at p;cases p;exact⟨.refl,s,C⟩
    ·have f:=aB E
     refine⟨Y,lw.tp _ _ j,?_⟩;rw[<- q.length];exact List.getElem?_eq_none_iff.mp f
   |ref n=>
    obtain⟨a,rfl,j⟩:=Q;have read:∀{b g c Z},QW X.K d H1 b g->zJ X.K b c g->zK (.ref n) c=some Z->∃Y,jd X.K g a Y/\zB X.K b g Z Y:=λ {b g c Z} lw s es=>by
     unfold zK at es;dsimp only at es;cases D:c[n]? with
     |none=>rw[D]at es;cases es|some o=>
      rw[D]at es;obtain⟨P,q,r⟩:=s.ob n o D;rw[lw.ex _ _ j]at q;cases q;cases o with|lst xs=>cases es;obtain⟨Y,U,h2⟩:=r;exact⟨Y,jd.of U,h2⟩|ro xs=>cases es;obtain⟨Y,U,h2⟩:=r;exact⟨Y,U.sq,h2⟩|dct xs=>cases es|tab _ _=>cases es
    obtain⟨u,B,_⟩:=read ⟨λ_ _ h=>h,λ_ _ h=>h,λ_ _ _ h=>h⟩ L e;refine⟨a,rfl,.inl ⟨⟨u,B⟩,U d H1 _ l1 L λi b g c lw s=>⟨λM E=>?_,λE=>?_⟩⟩⟩
    ·dsimp only at E
     cases es:zK (.ref n) c with
     |none=>rw[es]at E;cases E|some Z=>
      rw[es]at E;obtain⟨Y,t,r⟩:=read lw s es;obtain⟨y,l,C⟩:=r.get (aB E);refine⟨⟨Y,y,t,l⟩,λx N z=>?_⟩;obtain⟨J,I⟩:=z;subst J;have p:=I Y t;rw[l]at p;cases p;exact⟨.refl,s,C⟩
    ·dsimp only at E
     cases es:zK (.ref n) c with
     |none=>rw[es]at E;cases E|some Z=>
      rw[es]at E;obtain⟨Y,t,r⟩:=read lw s es;refine⟨Y,t,?_⟩;rw[<- r.length];exact List.getElem?_eq_none_iff.mp (aB E)
   |non=>cases e|bl _=>cases e|clo _ _ _=>cases e|xc _=>cases e|int _=>cases e|str _=>cases e
def YG (g:Gl X "enumerate")(i:X.mg "enumerate"=none)(d:zw X xr a ma)(s:starEach [a] X.env=[(false,eval a X.env)]:=by rfl):kO X xr (.Tuple oC kk ou) (.Call (.Name "enumerate" p) [a] [] og) (Y3 ma):=by
 simp only[zX]at*;exact PI.imp (fX g i (qX d jQ (by rw[s];rfl)) s) λt H r ⟨o,A,u,S,f,h⟩=>by
   refine tM.go S f (zW.mp h) λw n b j v e l c q=>?_;cases es:zK w n with
   |none=>rw[es]at e;exact e.elim|some x=>
    rw[es]at e;obtain⟨p,y,rfl,z,Z⟩:=KC c q es;exact⟨p,QH w,y,rfl,z,e b j _ l c (fY q)⟩
set_option tactic.hygienic true in
def Cj (j:zw X xr a ma)(d:attributeBase a "items" X.env (eval a X.env)=eval a X.env:=by rfl)(e:(oz.endLine==oh.line)=true:=by rfl):
  kO X xr (.Tuple oC kk ou) (.Call (.Attribute a "items" oz) [] [] oh) (US ma):=by
 simp only[zX]at*;exact PI.imp (CO j d e) λσ H r ⟨Z,A,ρ,S,J,h⟩=>by
   cases A with
   |cons o A=>exact h.elim|nil=>
    have g:=by have:=S.len;simpa using this
    subst g;refine tM.go S J (zW.mp h) λw A1 i I v y L l q=>?_
    split at y
    ·rename_i s
     by_cases B:qW (s.map (·.2))=true
     ·rw[aj B]at y
      obtain⟨p,D,rfl,Y,C,Q,P⟩:=l.dct q rfl;have E:H p=none:=by
       rcases L.nw 0 p Y with z|z
       ·simp at z
       ·exact z
      refine⟨p,D,rfl,C,λo=>?_⟩;have T:∀c x,qy X.K I c x->qy X.K (upd I p (.frz o (.dK D))) c x:=λc x t=>GF t (λxs z=>by rw[C]at z;cases z) (λ_ _ z=>by rw[C]at z;cases z)
      have M:Le X.K [] H [] (upd I p (.frz o (.dK D))):=by
       refine⟨λn c z=>z,λc x t=>T c x (L.tp c x t),λc u b N=>?_,λn c z=>.inl z,λc z=>?_,λc u U b=>?_⟩
       ·rw[qh (kI b E)];exact L.fr c u b N
       ·by_cases f:c=p
        ·rw[f];exact E
        ·rw[qh f]at z;exact L.st c z
       ·rw[qh (kI b E)];exact L.fz c u U b
      exact y [] _ _ M zJ.none (hA jD Q (P.nrm T (λc u U b=>by rw[qh (YU b C (by intro z;cases z))];exact b) B) B)
     ·rw[av B]at y;exact y.elim
    ·exact y.elim
def jS (g:Gl X "range")(n:X.mg "range"=none)(d:zw X xr a ma)(s:starEach [a] X.env=[(false,eval a X.env)]:=by rfl):kO X xr tg (.Call (.Name "range" p) [a] [] og) (gR ma):=by
 simp only[zX]at*;exact PI.imp (Co g n (qX d jQ (by rw[s];rfl)) s) λu H r ⟨t,A,x,S,l,h⟩=>by
   refine tM.go S l (zW.mp h) λw y b o v i L f q=>?_;cases w with
   |int j=>
    obtain rfl:=q;dsimp only at i
    by_cases c:jA j=true
    ·rw[aj c]at i
     obtain⟨e,B⟩:=Q3 c;exact⟨j,rfl,e,B,i b o _ L f NL⟩
    ·rw[av c]at i;exact i.elim
   |non=>exact i.elim|bl _=>exact i.elim|str _=>exact i.elim|tup _=>exact i.elim|ref _=>exact i.elim|clo _ _ _=>exact i.elim|xc _=>exact i.elim
def Ox (n:Gl X "range")(M:X.mg "range"=none)(r:zw X xr a ma)(o:zw X xr b mb)(s:starEach [a,b] X.env=[(false,eval a X.env),(false,eval b X.env)]:=by rfl)(c:starEach [b] X.env=[(false,eval b X.env)]:=by rfl):kO X xr tg (.Call (.Name "range" p) [a,b] [] og) (K6 ma mb):=by
 simp only[zX]at*;exact PI.imp (Cb n M (qX r (qX o jQ (by rw[c];rfl)) (by rw[s,c])) s c) λT H E ⟨P,A,U,S,K,h⟩=>by
   refine tM.go S K (zW.mp h) λw A1 f Z v N L C Q=>?_;refine tM.go C (K.mono L) (qx (zW.mp N) (λ_ _ z=>z) λ_ _ z=>z.mono L) λg I e D Y J l y q=>?_;cases w with
   |int i=>
    obtain rfl:=Q;cases g with
    |int j=>
     obtain rfl:=q;dsimp only at J
     by_cases d:(jA i&&jA j)=true
     ·rw[aj d]at J
      rw[ak]at d;obtain⟨x,u⟩:=Q3 d.1;obtain⟨t,B⟩:=Q3 d.2;exact⟨i,j,rfl,⟨x,u,t,B⟩,J e D _ (L.trans l) y NL⟩
     ·rw[av d]at J;exact J.elim
    |non=>exact J.elim|bl _=>exact J.elim|str _=>exact J.elim|tup _=>exact J.elim|ref _=>exact J.elim|clo _ _ _=>exact J.elim|xc _=>exact J.elim
   |non=>exact J.elim|bl _=>exact J.elim|str _=>exact J.elim|tup _=>exact J.elim|ref _=>exact J.elim|clo _ _ _=>exact J.elim|xc _=>exact J.elim
def KD (r:Gl X "zip")(M:X.mg "zip"=none)(u:zw X xr a ma)(t:zw X xr b mb)(f:qR a [b] X:=by rfl)(d:qR b [] X:=by rfl)(o:kS og [b] X:=by rfl):
  kO X xr (.Tuple oC kk ou) (.Call (.Name "zip" p) [a,b] [] og) (Jo ma mb):=by
 simp only[zX]at*;exact PI.imp (f9 r M (qX u (qX t jQ d) f) f o) λU H E ⟨T,A,Y,S,J,h⟩=>by
   refine tM.go S J (zW.mp h) λw A1 i H1 v N L x n=>?_;refine tM.go x (J.mono L) (qx (zW.mp N) (λ_ _ z=>z) λ_ _ z=>z.mono L) λe g c B v2 I l s Q=>?_;cases es:zK w g with
   |none=>rw[es]at I;exact I.elim|some us=>
    cases es':zK e g with
    |none=>rw[es,es']at I;exact I.elim|some vs=>
     rw[es,es']at I;have q:=n.mono l;obtain⟨p,K,rfl,j,D⟩:=KC s q es;obtain⟨P,y,rfl,Z,C⟩:=KC s Q es';exact⟨p,P,QH w,QH e,K,y,rfl,j,Z,I c B _ (L.trans l) s (gg q Q)⟩
def hJ {d:Nat}{M:Ev}(x:∀e s,X.xe e s->False)(B:zw X yd o6 M)(g:om[d+1]? =none):g7 X o6 om sc og d (qi M):=by
 simp only[zX]at*;exact gc.imp (C6 x B g) λD u H Q ⟨C,A,E,t,y,S,p,j,n,r,h⟩=>by
   refine tM.go S p (VQ (zW.mp h)) λw J f I v o L l q=>?_;obtain⟨c,N⟩:=L.off j n
   by_cases z:t.length<zM
   ·rw[aj z]at o
    refine⟨y,c,?_,?_⟩
    ·rw[<- r.length]
     have:sizeLine=16777216:=sizeLine_eq
     unfold zM at z;lia
    ·exact o f _ u _ (L.toD.trans (kd.upd c)) N (l.off c N) ⟨p.len,λi w e=>let ⟨v,a,b⟩:=p.get i w e;⟨v,a,(b.mono L).monoD (kd.upd c)⟩⟩ jD
      (((r.mono L).monoD (kd.upd c)).append (.one (q.monoD (kd.upd c))))
   ·rw[av z]at o;exact o.elim
def Um {T:Expr}{d:Nat}{mi:Ei}{Z:Tg}{M:Ev}{em:Em}(q:∀e s,X.xe e s->False)(w:X.calm=true)(v:om[d+1]? =some ⟨tg,T,ifs,0⟩)(y:∀g,om[d+2]? =some g->g.is_async=0)
  (hw:kO X yd tg T mi)(t:gf X tg Z)(hi:ZA X ifs M)(hm:g7 X o6 om sc og (d+1) em)(u:∀x,foldedSetIterable T X.env x=pure x:=by intro _;rfl):g7 X o6 om sc og d (Z4 mi Z M em):=by
 simp only[zX]at*;exact gc.imp (BN q w v y hw t hi hm u) λD σ H Q ⟨φ,A,ρ,acc,Y,S,re,B,n,f,h⟩=>by refine⟨φ,A,ρ,S,re,qx (VQ (zW.mp h)) (λj A1 h1 c H1 J U K o=>?_) λ_ _ z=>z⟩;obtain⟨E,n1⟩:=U.off B n;exact qT.read o K (re.mono U) E n1 (f.mono U) (qx h1 (λp P h2 a L b zs l N I r C i=>h2 a L b zs (U.toD.trans l) N I r C i) λ_ _ z=>z)
def jl (h:zw X xr e m):wI X xr e (jc m):=by
 simp only[zX]at*;exact PE.imp h λj H Q ⟨i,A,n,S,r,h⟩=>by
  refine tM.go S r (zW.mp h) λw g b f v d l s q=>?_;cases e:zK w g with
  |none=>rw[e]at d;exact d.elim|some o=>
   rw[e]at d;obtain⟨a,y,rfl,c,E⟩:=Vw s q e;exact d b f a y l s c E
def jW {q:jH}(h:Qd X xr e q):wI X xr e q:=by
 simp only[zX]at*;exact PE.imp h λj H Q ⟨c,A,d,S,f,h⟩=>
  ⟨c,A,d,S,f,qx h (λw p g a i D y l s o b n r=>g a i D y l s (.inl (jd.of b)) r) λ_ _ z=>z⟩
def Og {o i:Expr}{mo mi:Ev}(Z:zw X xr o mo)(hi:zw X xr i mi)(he:zw X xr e m)
  (ha:∀b I new,augStore i b I new=(do holding [new,b,I] (setItem b I new);release [new,b,I] [];pure .next):=by intros;rfl):yZ X xr (.AugAssign (.Subscript o i ou) .Add e og) (YW mo mi m):=by
 simp only[zX]at*;exact PS.imp (AQ Z hi BD he dF set_list ha) λD σ H ⟨φ,A,ρ,S,re,h⟩=>by
   refine tM.go S re (zW.mp h) λN A1 J H1 v1 h1 l1 S1 q=>?_;refine tM.go S1 (re.mono l1) (qx (zW.mp h1) (λ_ _ z=>z) λ_ _ z=>z.mono l1) λw A2 C H2 v2 h2 g s U=>?_;have l:=l1.trans g;cases N with
   |ref n=>cases w with
    |int k=>
     obtain rfl:=U;dsimp only at h2
     by_cases h0:0<=k
     ·rw[aj h0]at h2
      cases c:(A2[n]?:Option O) with
      |none=>rw[c]at h2;exact h2.elim|some ob=>cases ob with
       |lst ws=>
        rw[c]at h2;dsimp only at h2;obtain⟨p,vs,rfl,f1,g1,Q⟩:=s.lst (q.mono g) c;cases E:ws[k.toNat]? with
        |none=>rw[E]at h2;exact h2.elim|some K=>cases K with
         |int x=>
          rw[E]at h2;obtain⟨v,Y,P⟩:=Q.get E;obtain rfl:=P;refine⟨p,vs,k,_,rfl,rfl,h0,g1,Y,?_⟩;refine tM.go s (re.mono l) (qx (zW.mp h2) (λ_ _ z=>z) λ_ _ z=>z.mono l) λM B f H3 v3 a j S3 T=>?_;have L:=l.trans j;cases M with
          |int y=>
           obtain rfl:=T;dsimp only at a;refine⟨x,y,rfl,rfl,?_⟩;refine OX f B H3 (.ref p) (.int k) (.int (x+y)) (.ref n) (.int k) (.int (x+y)) _ S3 ((q.mono g).mono j) rfl rfl ?_;cases r:Zw (.ref n) (.int k) (.int (x+y)) B with
           |ok u t=>
            rw[r]at a;exactλd H4 l4 S4=>a d H4 σ (L.trans l4) S4 (re.mono (L.trans l4))
           |exc z t=>exact absurd r (NM _ _ _ _ z t)|bad=>rw[r]at a;exact a.elim
          |_=>exact a.elim
         |_=>rw[E]at h2;exact h2.elim
       |_=>rw[c]at h2;exact h2.elim
     ·rw[av h0]at h2;exact h2.elim
    |_=>exact h2.elim
   |_=>cases w<;>exact h2.elim
def zp (e:yZ X xr st m1)(j:yv X xr o7 m2):yv X xr (st::o7) (zS m1 m2):=by
 simp only[zX]at*;exact yL.imp (AH e j) λD o H ⟨f,A,g,S,i,h⟩=>by
   refine⟨f,A,g,S,i,qx (zW.mp h) (λfl n e=>?_) λ_ _ z=>z⟩;cases fl with|nx d=>exactλa c b l s r=>⟨a,n,d,s,r,qx e (λ_ _ z=>z.mono l) λ_ _ z=>z.mono l⟩|rt w=>exact e|bk d=>exact e|ct d=>exact e
def ZP (d:zw X xr e m)(s:swapsWith e none og.line X.env=pure false:=by rfl):yZ X xr (.Expr e og) (Jt m):=by simp only[zX]at*;exact PS.imp (dq d s) λD c H ⟨i,A,j,S,r,h⟩=>tM.go S r (zW.mp h) λw n a g v f l b q=>f a g c l b (r.mono l)
def yQ {oj:Expr}{mi:Ei}{tw:Tg}(hp:PassesOwn (model X.prog X.w) X.A X.env X.xe)(hc:X.calm=true)(hi:kO X xr tg oj mi)(hg:gf X tg tw)(hb:yv X xr body m1)
  (hs:∀x,foldedSetIterable oj X.env x=pure x:=by intro _;rfl):yZ X xr (.For tg oj body [] og) (w5 mi tw m1):=by
 simp only[zX]at*;exact PS.imp (dM hp hc hi hg hb hs) λD σ H ⟨φ,A,ρ,S,re,h⟩=>by
   refine⟨φ,A,ρ,S,re,qx (zW.mp h) (λj A1 h1 e H1 J l1 S1 jr=>?_) λ_ _ z=>z⟩;refine⟨λi f c B=>LF X.K xr j (turn tw m1) D e H1 f i c B,
    ⟨j.len,e,A1,ρ,.refl,S1,re.mono l1,qx h1 (λ_ _ z=>z.mono l1) λ_ _ z=>z.mono l1⟩,?_⟩
   rintro i f I T ⟨b,C,p,L,Q,q,h2⟩
   obtain⟨j1,j2⟩:=jr i b T C ⟨L.ex,L.tp,L.fz⟩ Q;cases E:j.at_ C i with
   |none=>cases f<;>(unfold j6 at h2;rw[E]at h2;exact h2.elim)|some o=>
    cases o with
    |none=>
     left
     refine⟨j2 E,?_⟩;cases f<;>(unfold j6 at h2;rw[E]at h2;exact h2 b T I .refl Q q)
    |some w=>
     right
     obtain⟨go,Z⟩:=j1 w E;cases f with
     |zero=>unfold j6 at h2;rw[E]at h2;exact h2.elim|succ f=>
      unfold j6 at h2;rw[E]at h2;refine⟨go,λc B=>LF X.K xr j (turn tw m1) D e H1 f (i+1) c B,λc B z=>⟨f,bz _,z⟩,λx H3 y=>?_⟩;obtain⟨l,P,q3⟩:=Z x H3 y;have t:=zW.mp h2;unfold turn at t;cases N:tw w p with
      |none=>rw[N]at t;exact t.elim|some n=>
       rw[N]at t;refine⟨b,C,p,w,n,P,q.mono l,q3,N,λY M=>?_⟩;refine⟨b,C,n,P,M,qx t (λfl U v=>?_) λ_ _ z=>z.mono l⟩;cases fl with|nx d=>exactλa u g l4 s r=>⟨a,U,d,(L.trans l).trans l4,s,r,qx v (λ_ _ z=>z.mono (l.trans l4)) λ_ _ z=>z.mono (l.trans l4)⟩|ct d=>exactλa u g l4 s r=>⟨a,U,d,(L.trans l).trans l4,s,r,qx v (λ_ _ z=>z.mono (l.trans l4)) λ_ _ z=>z.mono (l.trans l4)⟩|bk d=>exactλa u g l4 s r=>v a u g (l.trans l4) s r|rt w4=>exactλa u v4 l4 s q4=>v a u v4 (l.trans l4) s q4
def qV {b s:cy}(e:yx X xr c mc)(g:yv X xr b m1)(f:yv X xr s m2):yZ X xr (.If c b s og) (jx mc m1 m2):=by
 simp only[zX]at*;exact PS.imp (dw e g f) λD p H ⟨o,A,j,S,r,h⟩=>by
   refine tT.go S r (zW.mp h) λw n i=>?_;cases w with
   |bl k=>
    refine⟨k,rfl,λa q l d=>?_⟩;cases k with|true=>rw[aj rfl];exact⟨a,n,j,d,r.mono l,qx i (λ_ _ z=>z.mono l) λ_ _ z=>z.mono l⟩|false=>rw[av aP];exact⟨a,n,j,d,r.mono l,qx i (λ_ _ z=>z.mono l) λ_ _ z=>z.mono l⟩
   |non=>cases i|int _=>cases i|str _=>cases i|tup _=>cases i|ref _=>cases i|clo _ _ _=>cases i|xc _=>cases i
def zy:yv X xr [] qj:=by simp only[zX]at*;exact yL.imp dk λD b H ⟨a,A,c,S,r,h⟩=>h a H b .refl S r
def zV (b:zw X xr e m):yZ X xr (.Return (some e) og) (kN m):=by simp only[zX]at*;exact PS.imp (du b) λD g H ⟨f,A,i,S,r,h⟩=>tM.go S r (zW.mp h) λw j a d v c l s q=>c a d v l s q
def hV (i:Nat){p:Pos}(a:X.N.Nodup)(c:zw X xr e m)(b:X.N[i]? =some x:=by rfl)(h:Loc X.env.scope x:=by first|exact Or.inl rfl|exact Or.inr rfl)(H:swapsWith e (some (.Name x p)) og.line X.env=pure false:=by rfl)
  (f:QR X x:=by first|exact .inl rfl|exact .inr rfl):yZ X xr (.Assign [.Name x p] e og) (je i m):=by
 simp only[zX]at*;exact PS.imp (dA a b h c H f) je.read
def Vv (i:Nat){I:Expr}{u:Ei}{t:Tg}{M:Ev}{E:Em}{P a:Pos}(r:Nat)(C:cb)(o:X.N.Nodup)
  (j:X.calm=true)(S:Zi X sc)(p:QF X.N N sc r C=true)(v:kO X xr tg I u)
  (n:∀s H f,gf (jR X N sc s H f yI) tg t/\ZA (jR X N sc s H f yI) ifs M/\g7 (jR X N sc s H f yI) o6 (⟨tg,I,ifs,0⟩::gs) sc og 0 E)
  (b:X.N[i]? =some x:=by rfl)(d:X.env.scope.names.lookup x=some .local:=by rfl)
  (w:swapsWith (.ListComp o6 (⟨tg,I,ifs,0⟩::gs) sc og) (some (.Name x P)) a.line X.env=pure true:=by rfl)
  (l:∀c,gs[0]? =some c->c.is_async=0:=by intro _ h;cases h<;>rfl)
  (e:∀x,foldedSetIterable I X.env x=pure x:=by intro _;rfl):yZ X xr (.Assign [.Name x P] (.ListComp o6 (⟨tg,I,ifs,0⟩::gs) sc og) a) (je i (yb (qC r C u t M E))):=by
 simp only[zX]at*;exact PS.imp (L2.EZ (g:=tG X.K t) (ti:=tT X.K yd M) (tm:=tE X.K E) o b d w j S p l v n e) λD q H h=>qC.read q H _ (yb.read q H _ (je.read D q H h))
def ZO (h:gX X xr e m):yx X xr e m:=by simp only[zX]at*;exact PW.pt h
def ju {g:W->W->Hx->R W}(h:gx X op g)(c:zw X xr a ma)(H:zw X xr b mb)(e:op≠.In:=by decide)(d:op≠.NotIn:=by decide):yx X xr (.Compare a [op] [b] og) (zr g ma mb):=by simp only[zX]at*;exact let ⟨r,i,f,A⟩:=h.ex;NY i f A c H (h.mks b e d)
def K3 {o:CmpOp}{g d:W->W->Hx->R W}(h:gx X op g)(i:gx X o d)(f:zw X xr a ma)(e:zw X xr b mb)(H:zw X xr c mc)(p:lastMarks [op,o] [b,c]=false:=by with_unfolding_all rfl):
  yx X xr (.Compare a [op,o] [b,c] og) (yG g d ma mb mc):=by
 simp only[zX]at*;exact let ⟨r,s,q,A⟩:=h.ex;let ⟨n,l,j,B⟩:=i.ex;An s q A l j B f e H p
def NS {g:W->W->Hx->R W}(h:Xt X op g)(c:zw X xr a ma)(H:zw X xr b mb)(d:behindInMarks op b=false:=by rfl):yx X xr (.Compare a [op] [b] og) (zr g ma mb):=by simp only[zX]at*;exact let ⟨r,f,e,A⟩:=h.ex;NY f e A c H d
def ye (d:yx X xr a ma):yx X xr (.UnaryOp .Not a og) (jF ma):=by
 simp only[zX]at*;exact PT.imp (cZ d) λj H Q ⟨i,A,n,S,r,h⟩=>by
   refine tT.go S r (zW.mp h) λw o f=>?_;cases w with|bl k=>obtain⟨b,e,q⟩:=f;cases e;exact⟨k,rfl,λc g l s=>q c g l s⟩|non=>cases f|int _=>cases f|str _=>cases f|tup _=>cases f|ref _=>cases f|clo _ _ _=>cases f|xc _=>cases f
def yg (h:zw X xr e m)(a:∀w,isTrue e X.env w=(do let v <- w;standAt e.pos;holding [v] (truthy v)):=by intro _;rfl):yx X xr e m:=by simp only[zX]at*;exact PT.imp (cV h a) λb H Q h=>h.toM
def gI:ZA X [] (zE (.bl true)):=by
 simp only[zX]at*;exactλp s c H Q I ⟨a,A,d,S,r,h⟩=>Al p s c H Q I (by obtain⟨b,e,q⟩:=h;cases e;exact q a H .refl S)
def Zg (h:yx X yd c mc):ZA X [c] mc:=by simp only[zX]at*;exact CB h
def OY {r:ck}(f:yx X xr a ma)(d:gX X xr (.BoolOp .And (b::r) og) mb):gX X xr (.BoolOp .And (a::b::r) og) (gT ma mb):=by
 simp only[zX]at*;exact PW.imp (pw_and f d) λo H Q ⟨n,A,p,S,i,h⟩=>by
   refine tT.go S i (zW.mp h) λw t g=>?_;cases w with
   |bl k=>
    refine⟨k,rfl,λc j l s=>?_⟩;cases k with|true=>rw[aj rfl];exact tT.mono s l i g|false=>rw[av aP];obtain⟨b,e,q⟩:=g;cases e;exact q c j l s
   |non=>cases g|int _=>cases g|str _=>cases g|tup _=>cases g|ref _=>cases g|clo _ _ _=>cases g|xc _=>cases g
def Ou (h:yx X xr a ma):gX X xr (.BoolOp .And [a] og) ma:=by simp only[zX]at*;exact pw_and1 h
def Qz {r:ck}(f:yx X xr a ma)(d:gX X xr (.BoolOp .Or (b::r) og) mb):gX X xr (.BoolOp .Or (a::b::r) og) (ZF ma mb):=by
 simp only[zX]at*;exact PW.imp (pw_or f d) λo H Q ⟨n,A,p,S,i,h⟩=>by
   refine tT.go S i (zW.mp h) λw t g=>?_;cases w with
   |bl k=>
    refine⟨k,rfl,λc j l s=>?_⟩;cases k with|false=>rw[av aP];exact tT.mono s l i g|true=>rw[aj rfl];obtain⟨b,e,q⟩:=g;cases e;exact q c j l s
   |non=>cases g|int _=>cases g|str _=>cases g|tup _=>cases g|ref _=>cases g|clo _ _ _=>cases g|xc _=>cases g
def Q6 (h:yx X xr a ma):gX X xr (.BoolOp .Or [a] og) ma:=by simp only[zX]at*;exact pw_or1 h
def Xw {K:Frag}{v:Stmt}{k:Nat}{m:Ex}(F:kx K x x v f fd)(M:mg x=some (.ref f))(S:yO N ps (zY v))
  (j:∀(kV D L:Value)(T:cx)(c ct:Value)(U:b0),U.length=ps.length->bindArgs (fnOf x x (gu v) (jJ v) (zY v) .none kV D L T c ct) ⟨U,[]⟩=pure (ps.zip U))
  (b:∀(c:Value)(A:Around)(u:cq)(s:Shared)(H:Hp)(E:XK),jb k (A.deeper (envOfC x (zY v) s.heap.objs.size f c))->yv (yV yY P w K mg base N x (zY v) f c A u s H E).nox yd (jJ v) m):
  qv P w K mg base (k+1) x ps.length (qg N.length m):=by
 simp only[zX]at*;refine⟨f,fd,ps,?_,M,F.kp,F.binds j⟩;refine F.ok S (λJ H Q E h=>h.len) λc A u s H J Q E i ⟨t,I,C,z,n,r,h⟩=>⟨_,b c A u s H E i,?_⟩;refine⟨I,C,z.map some++List.replicate (N.length-z.length) none,n,RE.start r,?_⟩;have a:=zW.mp h;cases e:m (z.map some++List.replicate (N.length-z.length) none) C with
 |ok fl q=>
  rw[e]at a;cases fl with|rt w=>exact a|nx B=>exactλd p g l o _=>a d p .non l o rfl|bk B=>exact a.elim|ct B=>exact a.elim
 |exc y q=>
  rw[e]at a;exact a.elim
 |bad=>rw[e]at a;exact a.elim
def hW {K:Frag}{u:Stmt}{k:Nat}{m:Ex}(F:kx K x x u f fd)(S:yO N ps (zY u))
  (b:∀(c:Value)(A:Around)(t:cq)(s:Shared)(H:Hp)(E:XK),jb k (A.deeper (envOfC x (zY u) s.heap.objs.size f c))->yv (yV yY P w K mg base N x (zY u) f c A t s H E).nox yd (jJ u) m):
  yu P w K mg base yY (k+1) f fd ps (ZD K ps.length (qg N.length m)):=by
 simp only[zX]at*;refine F.ok S (λD H Q E h=>h.len) λc A t s H D Q E i ⟨q,C,B,v,j,r,h⟩=>⟨_,b c A t s H E i,?_⟩;refine⟨C,B,v.map some++List.replicate (N.length-v.length) none,j,RE.start r,?_⟩;have a:=zW.mp h;cases e:m (v.map some++List.replicate (N.length-v.length) none) B with
 |ok fl p=>
  rw[e]at a;cases fl with|rt w=>exact a|nx z=>exactλd o g l n _=>a d o .non l n rfl|bk z=>exact a.elim|ct z=>exact a.elim
 |exc y p=>rw[e]at a;exact a.elim|bad=>rw[e]at a;exact a.elim
def V2 (c:X.mg "abs"=none)(a:zw X xr e m)(h:Gl X "abs":=by rfl)(d:qR e [] X:=by rfl):zw X xr (.Call (.Name "abs" p) [e] [] og) (jN Lb m):=by
 simp only[zX]at*;exact fH Aj (λw A=>by unfold Lb;split;exact jL;exact qP) (λb A H x u Q S q p=>by
   cases u with|int i=>obtain rfl:=q;exact⟨i,rfl,p b H _ .refl S rfl⟩|_=>exact p.elim) c (by rfl) a h (by decide) (by decide) d (by rfl)
def Ys (i:zw X xr a ma)(I:zw X xr b mb)(s:qR b [] X:=by rfl)
  (e:attributeBase a "append" X.env (eval a X.env)=eval a X.env:=by rfl)
  (w:((backTo oh (starEach [b] X.env)).all (λx=>!x.1)&&(backToKw oh (keywordEach [] X.env)).all (λx=>x.1.isSome)
   && decide ([b].length+([]:cw).length+(if ([]:cw).isEmpty then 0 else 1)<30))=true:=by rfl)(h:(oz.endLine==oh.line)=true:=by rfl):
  zw X xr (.Call (.Attribute a "append" oz) [b] [] oh) (Zt Qv ma mb):=by
 simp only[zX]at*;exact Tb PySem.F.slot_list_append PySem.F.type_list_append P9 Ct (λt A H x y u v Q S g q p=>by
   unfold Qv at p;cases u with
   |ref n=>
    dsimp only at p;cases E:A[n]? with
    |none=>rw[E]at p;exact p.elim|some o=>cases o with
     |lst B=>
      rw[E]at p;dsimp only at p
      by_cases c:B.length<zM
      ·rw[aj c]at p
       obtain⟨l,C,rfl,D,j,r⟩:=S.lst g E;refine⟨l,C,y,rfl,rfl,j,?_,?_⟩
       ·rw[<- r.length]
        have:sizeLine=16777216:=sizeLine_eq
        unfold zM at c;lia
       ·have L:Le X.K t H t (upd H l (.lst (C++[y]))):=Le.upd D (λJ z=>by rw[j]at z;cases z) (λ_ _ z=>by rw[j]at z;cases z)
        obtain⟨f,d⟩:=S.write (o':=.lst (B++[v])) E rfl rfl D ⟨_,jD,(r.mono L).append (.one (q.mono L))⟩;exact p _ _ _ f d rfl
      ·rw[av c]at p;exact p.elim
     |_=>rw[E]at p;exact p.elim
   |_=>exact p.elim) i I s e w h
def Kr (c:X.mg "int"=none)(a:zw X xr e m)(h:Gl X "int":=by rfl)(d:qR e [] X:=by rfl):zw X xr (.Call (.Name "int" p) [e] [] og) (jN Ll m):=by
 simp only[zX]at*;exact fI Cm (λw A=>by unfold Ll;split;exact jL;exact jL;exact qP) (λb A H x u Q S q p=>by
   cases u with|int i=>obtain rfl:=q;exact .inl ⟨i,rfl,p b H _ .refl S rfl⟩|bl k=>obtain rfl:=q;exact .inr ⟨k,rfl,p b H _ .refl S rfl⟩|_=>exact p.elim) c (by rfl) a h (by decide) (by decide) d (by rfl)
def CU (e:X.calm=true)(s:X.mg "max"=none)(n:zw X xr a ma)(g:zw X xr b mb)(l:Gl X "max":=by rfl)(w:qR a [b] X:=by rfl)(t:qR b [] X:=by rfl)(h:kS og [b] X:=by rfl):
  zw X xr (.Call (.Name "max" p) [a,b] [] og) (zr U3 ma mb):=by
 simp only[zX]at*;exact Tf (Cr e) JQ (λr A H x y u v Q S d c p=>by
   obtain⟨i,j,o,E,q⟩:=JK (f:=λi j=>.int (if j > i then j else i)) (λ_ _ _ _=>rfl) r A H x y u v Q S d c p;subst o;subst E;exact⟨i,j,rfl,q⟩) s (by rfl) n g l (by decide) (by decide) w t h
def Dn (C:zw X xr a ma)(N:zw X xr b mb)(B:qR b [] X:=by rfl)
  (e:attributeBase a "pop" X.env (eval a X.env)=eval a X.env:=by rfl)
  (c:((backTo oh (starEach [b] X.env)).all (λx=>!x.1)&&(backToKw oh (keywordEach [] X.env)).all (λx=>x.1.isSome)
   && decide ([b].length+([]:cw).length+(if ([]:cw).isEmpty then 0 else 1)<30))=true:=by rfl)(h:(oz.endLine==oh.line)=true:=by rfl):
  zw X xr (.Call (.Attribute a "pop" oz) [b] [] oh) (Zt Jd ma mb):=by
 simp only[zX]at*;exact Tb PySem.F.slot_list_pop PySem.F.type_list_pop Bm Bn (λU A H x y u v Q S t s p=>by
   unfold Jd at p;cases u with
   |ref n=>cases v with
    |int i=>
     obtain rfl:=s;dsimp only at p;cases E:A[n]? with
     |none=>rw[E]at p;exact p.elim|some o=>cases o with
      |lst J=>
       rw[E]at p;dsimp only at p
       by_cases d:jA i=true
       ·rw[aj d]at p
        obtain⟨I,D⟩:=Q3 d;cases g:seqIndex? i J.length with
        |none=>rw[g]at p;exact p.elim|some k=>
         rw[g]at p;dsimp only at p;cases f:J[k]? with
         |none=>rw[f]at p;exact p.elim|some w=>
          rw[f]at p;obtain⟨l,M,rfl,L,K,r⟩:=S.lst t E;obtain⟨y,T,P⟩:=r.get f;obtain⟨j,q⟩:=S.write (o':=.lst (J.eraseIdx k)) E rfl rfl L ⟨_,jD,(r.erase k).mono (Le.upd L (λY z=>by rw[K]at z;cases z) (λ_ _ z=>by rw[K]at z;cases z))⟩
          exact⟨l,M,i,k,y,rfl,rfl,K,by lia,by lia,by rw[<- r.length];exact g,T,p _ _ _ j q (P.mono j)⟩
       ·rw[av d]at p;exact p.elim
      |_=>rw[E]at p;exact p.elim
    |_=>exact p.elim
   |_=>cases v<;>exact p.elim) C N B e c h
def V5 (H:zw X xr a ma)(h:zw X xr b mb):zw X xr (.BinOp a .Pow b og) (zr TZ ma mb):=by simp only[zX]at*;exact Ja dT Tn (UJ fm λ_ _ _ _=>rfl) H h
def JF {x j}:zw X xr (.Constant (.str x) j og) (zE (.str x)):=by simp only[zX]at*;exact PE.imp cT λb H Q ⟨a,A,c,S,r,h⟩=>h a H _ .refl S rfl
def Nr (H:zw X xr a ma)(h:zw X xr b mb):zw X xr (.BinOp a .BitXor b og) (zr fk ma mb):=by simp only[zX]at*;exact Ja dU JQ (JK λ_ _ _ _=>rfl) H h
def YF {q:jH}(t:X.mg "list"=none)(d:wI X xr e q)(g:Gl X "list":=by rfl)(i:qR e [] X:=by rfl):
  zw X xr (.Call (.Name "list" p) [e] [] og) (yb q):=by
 simp only[zX]at*;exact PE.imp (Yv HP g t (by rfl) (qX d jQ i) (by decide) (by decide) i (by rfl)) λx H Q ⟨j,A,n,S,o,h⟩=>by refine⟨j,A,n,S,o,qx (zW.mp h) (λB D u b C a y L s z r=>?_) λ_ _ z=>z⟩;refine⟨a,y,rfl,z,λl c=>?_⟩;obtain⟨w,v,f⟩:=Je s c r;exact u _ _ _ (L.trans w) v f
def Nt {o i:Expr}{M b:Ev}(d:zw X xr e m)(H:zw X xr o M)(c:zw X xr i b)
  (h:swapsWithSole [.Subscript o i ou] e og.line X.env=pure false:=by rfl)(w:swappedStores [.Subscript o i ou] e X.env=pure none:=by rfl)
  (f:(assignEach [.Subscript o i ou] X.env).map (·.2)=[assign (.Subscript o i ou) X.env]:=by rfl)
  (a:∀v,assign (.Subscript o i ou) X.env v=(do
   let ov <- holding [v] (eval o X.env)
   let iv <- holding [v,ov] (eval i X.env)
   standAt ou
   holding [v,ov,iv] (setItem ov iv v)
   release [v,ov,iv] []):=by intro _;rfl):yZ X xr (.Assign [.Subscript o i ou] e og) (Xe Zw m M b):=by
 simp only[zX]at*;exact CW set_list NM OX d H c h w f a
def DZ (f:Nat)(B:PassesOwn (model X.prog X.w) X.A X.env X.xe)(C:yx X xr c mc)(E:yv X xr body m1):yZ X xr (.While c body [] og) (N3 f mc m1):=by
 simp only[zX]at*;exact PS.imp (Ar B C E) λD σ H ⟨U,A,Z,S,re,h⟩=>by
   refine⟨λf g e=>∃a p d,Le X.K U H a e/\zJ X.K a p e/\RE X.K a e d g/\(Jm mc m1 f d p).post (FB X.K a e D) (EB X.K a e xr),⟨f,U,A,Z,.refl,S,re,h⟩,?_⟩
   rintro f v P ⟨a,p,d,L,I,o,Y⟩
   cases f with
   |zero=>exact Y.elim|succ f=>
    refine tT.go I o (zW.mp Y) λw M j=>?_;cases w with
    |bl k=>
     refine⟨k,rfl,λq J l x=>?_⟩;cases k with
     |true=>
      refine⟨λg e=>∃a p d,Le X.K U H a e/\zJ X.K a p e/\RE X.K a e d g/\(Jm mc m1 f d p).post (FB X.K a e D) (EB X.K a e xr),λg e z=>⟨f,bz _,z⟩,?_⟩;refine⟨q,M,d,x,o.mono l,qx (zW.mp j) (λfl y u=>?_) λ_ _ z=>z.mono l⟩;cases fl with|nx i=>exactλb t n T s r=>⟨b,y,i,(L.trans l).trans T,s,r,qx u (λ_ _ z=>z.mono (l.trans T)) λ_ _ z=>z.mono (l.trans T)⟩|ct i=>exactλb t n T s r=>⟨b,y,i,(L.trans l).trans T,s,r,qx u (λ_ _ z=>z.mono (l.trans T)) λ_ _ z=>z.mono (l.trans T)⟩|bk i=>exactλb t n T s r=>u b t n (l.trans T) s r|rt N=>exactλb t v4 T s Q=>u b t v4 (l.trans T) s Q
     |false=>
      exact j q J v l x (o.mono l)
    |non=>cases j|int _=>cases j|str _=>cases j|tup _=>cases j|ref _=>cases j|clo _ _ _=>cases j|xc _=>cases j
end
end Mi
variable {mr:Mi.Ea}{mi:Mi.Ei}{em:Mi.Em}{ρ:Mi.En}{me:Mi.Ev}{A A1 B:Mi.Hx}{ws:List Mi.W}{I:Nat->Mi.En->List Mi.W->Mi.Hx->Prop}{o:Mi.O}{tw:Mi.Tg}{g:Mi.W->Mi.W->Mi.Hx->Mi.R Mi.W}{xr:Mi.XR}{q:Mi.jH}
set_option maxHeartbeats 4000000
namespace Mi
open PySem L2
section
variable {ρ1:En}{A2:Hx}{w x y:W}{m ma mb mc:Ev}{m1 m2:Ex}{f:Fn}
def zl (h:ρ[i]? =some (some w)):zA i ρ A=.ok w A:=by unfold zA;rw[h]
def zQ:zE w ρ A=.ok w A:=rfl
def zF (H:ma ρ A=.ok x A1)(h:mb ρ A1=.ok y A2):zr g ma mb ρ A=g x y A2:=by unfold zr;rw[H,zG,h,zG]
def UI {g:W->Hx->R W}(h:ma ρ A=.ok x A1):jN g ma ρ A=g x A1:=by unfold jN;rw[h,zG]
def jh {k:Bool}(h:ma ρ A=.ok (.bl k) A1):jF ma ρ A=.ok (.bl (!k)) A1:=by unfold jF;rw[h,zG]
def wQ (h:ma ρ A=.ok (.bl true) A1):gT ma mb ρ A=mb ρ A1:=by unfold gT;rw[h,zG]
def ZW (h:ma ρ A=.ok (.bl false) A1):gT ma mb ρ A=.ok (.bl false) A1:=by unfold gT;rw[h,zG]
def YV (h:ma ρ A=.ok (.bl true) A1):ZF ma mb ρ A=.ok (.bl true) A1:=by unfold ZF;rw[h,zG]
def wV (h:ma ρ A=.ok (.bl false) A1):ZF ma mb ρ A=mb ρ A1:=by unfold ZF;rw[h,zG]
def zO {a:Ea}(h:a ρ A=.ok ws A1):zR f a ρ A=f ws A1:=by unfold zR;rw[h,zG]
def zI:zq ρ A=.ok [] A:=rfl
def zu {r:Ea}(H:ma ρ A=.ok x A1)(h:r ρ A1=.ok ws A2):zi ma r ρ A=.ok (x::ws) A2:=by unfold zi;rw[H,zG,h,zG]
def JC {a:Ea}(h:a ρ A=.ok ws A1):qc a ρ A=.ok (.tup ws) A1:=by unfold qc;rw[h,zG]
def qO {a:Ea}(h:a ρ A=.ok ws A1):qF a ρ A=.ok (.ref A1.length) (A1++[.lst ws]):=by unfold qF;rw[h,zG]
def zD (h:m1 ρ A=.ok (.nx ρ1) A1):zS m1 m2 ρ A=m2 ρ1 A1:=by unfold zS;rw[h,zG]
def zL (h:m1 ρ A=.ok (.rt w) A1):zS m1 m2 ρ A=.ok (.rt w) A1:=by unfold zS;rw[h,zG]
def qD:qj ρ A=.ok (.nx ρ) A:=rfl
def ql (h:m ρ A=.ok w A1):je i m ρ A=.ok (.nx (ρ.set i (some w))) A1:=by unfold je;rw[h,zG]
def Z2 (h:m ρ A=.ok w A1):Jt m ρ A=.ok (.nx ρ) A1:=by unfold Jt;rw[h,zG]
def qb (h:m ρ A=.ok w A1):kN m ρ A=.ok (.rt w) A1:=by unfold kN;rw[h,zG]
def jV (h:mc ρ A=.ok (.bl true) A1):jx mc m1 m2 ρ A=m1 ρ A1:=by unfold jx;rw[h,zG]
def q9 (h:mc ρ A=.ok (.bl false) A1):jx mc m1 m2 ρ A=m2 ρ A1:=by unfold jx;rw[h,zG]
def yP {j:jf}(h:mi ρ A=.ok j A1):w5 mi tw m1 ρ A=j6 j (turn tw m1) j.len 0 ρ A1:=by unfold w5;rw[h,zG]
def kh (h:tw w ρ=some ρ1):turn tw m1 w ρ A=m1 ρ1 A:=by unfold turn;rw[h]
def Gg {j:jf}{s:W->Ex}(h:j.at_ A i=some none):j6 j s n i ρ A=.ok (.nx ρ) A:=by
 cases n with|zero=>unfold j6;rw[h]|succ n=>unfold j6;rw[h]
def KA {j:jf}{s:W->Ex}(h:j.at_ A i=some (some w))(H:s w ρ A=.ok (.nx ρ1) A1):j6 j s (n+1) i ρ A=j6 j s n (i+1) ρ1 A1:=by rw[j6,h];dsimp only;rw[H,zG]
def Ao {j:jf}{s:W->Ex}(h:j.at_ A i=some (some w))(H:s w ρ A=.ok (.rt x) A1):j6 j s (n+1) i ρ A=.ok (.rt x) A1:=by rw[j6,h];dsimp only;rw[H,zG]
def Zd {k:Int}(h:m ρ A=.ok (.int k) A1)(H:jA k=true):gR m ρ A=.ok (kZ 0 k.toNat) A1:=by unfold gR;rw[h,zG];dsimp only;rw[aj H]
def wR {l:Int}{k:Nat}(h:i<k):(kZ l k).at_ A i=some (some (.int (l+i))):=by unfold kZ;dsimp only;rw[aj h]
def wN {l:Int}{k:Nat}(h:¬i<k):(kZ l k).at_ A i=some none:=by unfold kZ;dsimp only;rw[av h]
def qe (h:m1 (ws.map some++List.replicate (n-ws.length) none) A=.ok (.rt w) A1):qg n m1 ws A=.ok w A1:=by unfold qg;rw[h];rfl
def Zn {w:W}(n:qW ws=true)(H:w.nr=true)(h:f ws []=.ok w A1):iso f ws A=.ok w A:=by
 unfold iso;rw[aj n,h];cases w with|ref k=>cases H|_=>dsimp only;rw[aj H]
end
end Mi
set_option maxHeartbeats 4000000
namespace Mi
open PySem L2
def Bh {j:jf}{s:Ev}{c:En}{N:Nat}{b g:Nat->W}{keep:Nat->Bool}(t:∀i,i<N->j.at_ A i=some (some (b i)))(d:j.at_ A N=some none)
  (o:∀i,i<N->s (some (b i)::c) A=.ok (.bl (keep i)) A)(p:∀i,i<N->keep i=true->me (some (b i)::c) A=.ok (g i) A):
  ∀(n i:Nat)(x:Option W)(f:List W),i+n=N->f.length+n<=zM->∃y,qT j (qa 0) s (qi me) n i (x::c) f A=.ok (y::c,f++((List.range' i n).filter keep).map g) A:=by
 intro n
 induction n with
 |zero=>
  intro i x f h _
  have:i=N:=by lia
  subst this;unfold qT;rw[d];simp
 |succ n I=>
  intro i x f h l;have H:i<N:=by lia
  rw[qT,t i H];dsimp only[qa,List.set];rw[o i H,zG];rw[range'_succ];cases a:keep i with
  |true=>
   obtain⟨y,e⟩:=I (i+1) (some (b i)) (f++[g i]) (by lia) (by rw[ai,aA];lia)
   refine⟨y,?_⟩;have E:qi me (some (b i)::c) f A=.ok (some (b i)::c,f++[g i]) A:=by unfold qi;rw[p i H a,zG,aj (by lia)]
   rw[E,zG];rw[e,List.filter_cons_of_pos a,a5,aX]
   rfl
  |false=>
   obtain⟨y,e⟩:=I (i+1) (some (b i)) f (by lia) (by lia)
   exact⟨y,by rw[e,List.filter_cons_of_neg (by rw[a];exact aP)]⟩
def Pp {j:jf}{ifs:Ev}{N:Nat}{I g:Nat->W}{keep:Nat->Bool}(d:mi ρ A=.ok j A)(a:j.len=N)(b:N<=zM)
  (H:∀i,i<N->j.at_ A i=some (some (I i)))(h:j.at_ A N=some none)(f:∀i,i<N->ifs (some (I i)::cap.map λi=>(ρ[i]?).join) A=.ok (.bl (keep i)) A)
  (l:∀i,i<N->keep i=true->me (some (I i)::cap.map λi=>(ρ[i]?).join) A=.ok (g i) A):
  qC 1 cap mi (qa 0) ifs (qi me) ρ A=.ok (((List.range N).filter keep).map g) A:=by
 obtain⟨y,e⟩:=Bh H h f l N 0 none [] (Nat.zero_add N) (by simpa using b)
 unfold qC;rw[d,zG,a];have c:JP 1 cap ρ=none::cap.map λi=>(ρ[i]?).join:=rfl;rw[c,e,nil_append,<- range_eq_range']
 rfl
def gn {j:jf}{N:Nat}{item g:Nat->W}(c:mi ρ A=.ok j A)(a:j.len=N)(b:N<=zM)
  (t:∀i,i<N->j.at_ A i=some (some (item i)))(H:j.at_ A N=some none)(e:∀i,i<N->me (some (item i)::cap.map λi=>(ρ[i]?).join) A=.ok (g i) A):
  qC 1 cap mi (qa 0) (zE (.bl true)) (qi me) ρ A=.ok ((List.range N).map g) A:=by
 have h:=Pp (ifs:=zE (.bl true)) c a b t H (λ_ _=>rfl) λi d _=>e i d;rw[(List.filter_eq_self.mpr λ_ _=>rfl)]at h;exact h
def jy {g:List W->Hx->R W}(h:q ρ A=.ok ws A1):mQ g q ρ A=g ws A1:=by unfold mQ;rw[h,zG]
def j4 (h:q ρ A=.ok ws A1):yb q ρ A=.ok (.ref A1.length) (A1++[.lst ws]):=by unfold yb;rw[h,zG]
def yq {m:Ev}{w:W}(h:m ρ A=.ok w A1)(H:zK w A1=some ws):jc m ρ A=.ok ws A1:=by unfold jc;rw[h,zG,H]
open PySem PySem.Spec PyProof.Rows L2
inductive zfh (H:Hp)(h g:Heap)(e:Addr)(vs:Array Value):Prop
 |mk (T:Addr) (oT:Obj) (ts:Array Value) (h1:vs[1]? =some (.ref T)) (ne:T≠e) (ng:g.get? T=none) (nH:H T=none) (hT:h.get? T=some oT) (hd:oT.data=.fields ts) (h3:ts[3]? =some .none)
inductive gy (H:Hp)(h g:Heap)(e:Addr)(C:Value):Prop
 |mk (ng:g.get? e=none) (nH:H e=none) (oe:Obj) (vs:Array Value) (a0:Value) (he:h.get? e=some oe) (hc:oe.cls=C) (hd:oe.data=.fields vs) (h0:vs[0]? =some a0) (h1:vs[1]? =some .none∨zfh H h g e vs)
inductive Tr (h:Heap)(e:Addr):Prop
 |mk (oe:Obj) (vs:Array Value) (T:Addr) (he:h.get? e=some oe) (hd:oe.data=.fields vs) (h1:vs[1]? =some (.ref T))
section
variable {A:Around}{outer:cq}{L e:Addr}{C:Value}{g:Heap}
theorem frames_at {B:Heap}:∀{l:cq},s.heap.FunFrames base l->(∀b∈qG l,B.get? b=none)->s.heap.FunFrames B l
 |[],_,_=>trivial|e::r,⟨c,⟨L,o,hf,hn,a,hd⟩,H⟩,h=>⟨c,⟨L,o,hf,h L (by unfold qG;rw[bM,hf];exact au ..),a,hd⟩,frames_at H λb d=>h b (by unfold qG;rw[bM,hf];exact ao _ d)⟩
def Mm {Q:Unit->Shared->Prop}(B:A.frames=some (env::outer))(hf:env.frame=some L)(J:s.heap.FunFrames base (env::outer))(x:gy H s.heap g e C)
  (tr:∀b u,H b=some u->∃o,s.heap.get? b=some o)(th:∀b o,g.get? b=some o->∃o',s.heap.get? b=some o')
  (hQ:∀a,(∀b o,s.heap.get? b=some o->b∉qG (env::outer)->((∃o',g.get? b=some o')∨∃u,H b=some u)->a.get? b=some o)->(∀b o,s.heap.get? b=some o->b∈qG (env::outer)->∃sl,a.get? b=some { o with slots:=sl })->
   gy H a g e C->Tr a e->Q () { s with heap:=a }):wpAny M A (leaving env (.ref e)) Q E s:=by
 obtain⟨P,X,oe,vs,a0,he,hc,hd,h0,h1⟩:=x;have fin:∀(d:b8),(∀b∈qG (env::outer),b∈d)->(∀b∈d,b∉qG (env::outer)->g.get? b=none/\H b=none)->∀a,Heap.LeftW (hideAll s.heap d) (env::outer) e C a0 s.heap a->Q () { s with heap:=a }:=by
  intro d hi1 y a ⟨st,ff,w,us⟩;refine hQ a (λb o h nb hx=>?_) (λb o h mb=>?_) ?_ (by obtain⟨j,v,T,I,t,l,_,n,r,_⟩:=w;exact⟨j,v,T,l,n,r⟩)
  ·refine st b o (bS d h λhm=>?_)
   obtain⟨z1,z2⟩:=y b hm nb;rcases hx with ⟨o',q⟩|⟨u,q⟩
   ·rw[z1]at q;cases q
   ·rw[z2]at q;cases q
  ·obtain⟨_,o',c,f⟩:=J.mem mb
   rw[h]at c;cases c;exact us b o h f
  ·obtain⟨j,v,T,I,t,l,⟨S,h0'⟩,n,r,D,p,K,i,Y⟩:=w
   have nT:T∉qG (env::outer):=λhm=>by obtain⟨_,o',c,f⟩:=J.mem hm;obtain⟨sl,z⟩:=us T o' c f;rw[K]at z;cases z;exact f t i
   have both:g.get? T=none/\H T=none:=by
    cases q:s.heap.get? T with
    |some o=>
     by_cases hm:T∈d
     ·exact y T hm nT
     ·rw[bS d q hm]at D;cases D
    |none=>
     constructor
     ·cases z:g.get? T with|none=>rfl|some o=>obtain⟨o',Z⟩:=th T o z;rw[q]at Z;cases Z
     ·cases z:H T with|none=>rfl|some u=>obtain⟨o',Z⟩:=tr T u z;rw[q]at Z;cases Z
   exact⟨P,X,j,v,a0,l,S,n,h0',.inr ⟨T,I,t,r,p,both.1,both.2,K,i,Y⟩⟩
 have stay:∀d:b8,(hideAll s.heap d).StaysIn s.heap:=λd b o q=>of_hideAll d q;rcases h1 with h1|⟨T,I,t,h1,p,N,U,K,i,Y⟩
 ·have hn:∀b∈e::qG (env::outer),(hideAll s.heap (e::qG (env::outer))).get? b=none:=λb h=>hideAll_none _ h
  refine wpAny_leaving_firstW B (frames_at J λb h=>hn b (ao _ h)) hf he (stay _) (hn e (au ..)) hd h1 h0 ?_;rw[hc];refine fin _ (λb h=>ao _ h) λb h nb=>?_;rcases cB.mp h with rfl|h
  ·exact⟨P,X⟩
  ·exact absurd h nb
 ·have hn:∀b∈e::T::qG (env::outer),(hideAll s.heap (e::T::qG (env::outer))).get? b=none:=λb h=>hideAll_none _ h
  refine wpAny_leaving_nextW B (frames_at J λb h=>hn b (ao _ (ao _ h))) hf
   ⟨oe,vs,T,I,t,he,⟨hc,h0⟩,hd,h1,hn T (ao _ (au ..)),p,K,i,Y⟩ (stay _) (hn e (au ..)) ?_
  refine fin _ (λb h=>ao _ (ao _ h)) λb h nb=>?_;rcases cB.mp h with rfl|h
  ·exact⟨P,X⟩
  ·rcases cB.mp h with rfl|h
   ·exact⟨N,U⟩
   ·exact absurd h nb
end
inductive MX (P:Program)(w:World)(outer:cq)(H:Hp)(s:Shared)(E:XK)(e:Value)(s':Shared):Prop
 |mk (ea C:Addr) (H':Hp) (he:e=.ref ea) (os:s'.os=s.os) (b:AllBare s'.gens) (un:Un (qG outer) [] H H' s.heap s'.heap) (hk:qY P w H' s'.heap) (ly:gy H' s'.heap s.heap ea (.ref C)) (tr:Tr s'.heap ea) (q:E (.ref C) none H')
def gm (P:Program)(w:World):Za:=λo H s E e S=>MX P w o H s E e S
def _root_.L2.jk.obj {o:HO}(x:jk P w H h a o):∃ob,h.get? a=some ob:=by
 cases o with|lst X=>obtain⟨_,_,_,_,e⟩:=x;exact⟨_,e⟩|tup X=>obtain⟨_,_,_,o,e,_⟩:=x;exact⟨o,e⟩|dK K=>obtain⟨_,_,_,_,o,_,_,e,_⟩:=x;exact⟨o,e⟩|set S n=>obtain⟨o,_,_,_,e,_⟩:=x;exact⟨o,e⟩|own y=>exact x|xd fs=>obtain⟨_,⟨o,_,_,e,_⟩,_⟩:=x;exact⟨o,e⟩|rng l i=>obtain⟨_,_,_,e⟩:=x;exact⟨_,e⟩|frz ob u=>exact⟨ob,x.1⟩|tbl p=>exact⟨_,(show h.get? a=some _ from x)⟩|ext b=>exact x.2.1
def D2 {K:Frag}{y:Value}{A:Around}{l:cq}{E:XK}
  {h:Hp}{d C:Addr}(I:Inv (yV (gm P w) P w K mg base N qual scope f y A l s H E) n9 σ h s')(x:gy h s'.heap s.heap d (.ref C))(i:E (.ref C) none h):
  (yV (gm P w) P w K mg base N qual scope f y A l s H E).xe (.ref d) s':=by
 have bs:Un (qG l) [] H h s.heap s'.heap:=I.base;have mem:∀b,b∈qG (envOfC qual scope s.heap.objs.size f y::l)↔b=s.heap.objs.size∨b∈qG l:=λb=>by exact bL
 refine Mm I.ok.frames rfl I.stack x (λb u e=>(I.hok b u e).obj) (λb o e=>bs.there b o e (by simp)) λj B T X t=>?_
 have r:∀b u,h b=some u->b∉qG (envOfC qual scope s.heap.objs.size f y::l):=λb u e p=>by rw[I.stkFree b p]at e;cases e
 refine⟨d,C,h,rfl,I.os,I.bare,⟨λb o e n J _=>?_,λb o e n M _=>?_,λb o e n a=>bs.free b o e n a,λb o e a=>?_,bs.tups,bs.frzs,bs.tbls⟩,λb u e=>?_,X,t,i⟩
 ·have L:b≠s.heap.objs.size:=λz=>by rw[z,(Heap.get?_none_of_le (ax _))]at e;cases e
  exact B b o (bs.keep b o e n J (by simp)) (λp=>(mem b).mp p |>.elim L J) (.inl ⟨o,e⟩)
 ·obtain⟨sl,q⟩:=bs.slot b o e n M (by simp)
  obtain⟨S,Q⟩:=T b _ q ((mem b).mpr (.inr M));exact⟨S,Q⟩
 ·obtain⟨D,q⟩:=bs.there b o e a
  by_cases p:b∈qG (envOfC qual scope s.heap.objs.size f y::l)
  ·obtain⟨sl,z⟩:=T b D q p;exact⟨_,z⟩
  ·exact⟨D,B b D q p (.inl ⟨o,e⟩)⟩
 ·refine(I.hok b u e).stay (λc v g q=>?_) (λ_ q=>q) λ_ _ q=>q
  rcases g with z|z
  ·rw[z]at q ⊢;exact B b v q (r b u e) (.inr ⟨u,e⟩)
  ·exact B c v q (r c _ z) (.inr ⟨_,z⟩)
def PX {E:XK}{e:Value}(I:Inv X n9 σ H s)(h:gm X.prog X.w X.stack H s E e s')(g:Heap)(p:∀b o,g.get? b=some o->∃o',s.heap.get? b=some o'):
  ∃a C c,e=.ref a/\Inv X n9 σ c s'/\gy c s'.heap g a (.ref C)/\Tr s'.heap a/\E (.ref C) none c:=by
 obtain⟨a,C,c,rfl,os,Z,un,hok,x,r,u⟩:=h;obtain⟨U,Y,d,t,f⟩:=s';obtain rfl:f=s.os:=os;refine⟨a,C,c,rfl,I.call un hok Z (λb z=>absurd z (by simp)),?_,r,u⟩
 have up:∀b,s.heap.get? b=none->g.get? b=none:=λb n=>by
  cases z:g.get? b with|none=>rfl|some o=>obtain⟨o',q⟩:=p b o z;rw[n]at q;cases q
 obtain⟨a1,a2,j,vs,S,Q,P,N,M,B⟩:=x;refine⟨up a a1,a2,j,vs,S,Q,P,N,M,?_⟩;rcases B with B|⟨T,l,i,L,K,J,D,A,y,v⟩
 ·exact .inl B
 ·exact .inr ⟨T,l,i,L,K,up T J,D,A,y,v⟩
def gD (K:Frag)(E:XK):XR:=λx H=>∀C:Addr,kj K x (.ref C)->E (.ref C) none H
inductive XT (K:Frag)(n:Nat)(f:Fn)(vs:List V)(H:Hp)(Q:VK)(E:XK):Prop
 |mk (len:vs.length=n) (φ:b8) (A:Hx) (ws:List W) (S:zJ K φ A H) (r:zB K φ H ws vs) (q:(f ws A).post (PB K φ H Q) (EB K φ H (gD K E)))
def XT.len {K:Frag}{f:Fn}{Q:VK}{E:XK}(h:XT K n f vs H Q E):vs.length=n:=by cases h;assumption
inductive jC (P:Program)(w:World)(K:Frag)(mg:cn)(base:Heap)(k:Nat)(x:Str)(n:Nat)(f:Fn):Prop
 |mk (fa:Addr) (fd:FuncData) (ps:cf) (F:yu P w K mg base (gm P w) k fa fd ps (XT K n f)) (at_:mg x=some (.ref fa)) (kp:keepIn K (.ref fa)=true) (bi:Binds K fd ps [])
structure gW (X:Cx)(g:Heap)(xr:XR):Prop where
 th:∀n9 σ H s,Inv X n9 σ H s->∀b o,g.get? b=some o->∃o',s.heap.get? b=some o'
 out:∀n9 σ H s ea C x,Inv X n9 σ H s->gy H s.heap g ea (.ref C)->kj X.K x (.ref C)->xr x H->X.xe (.ref ea) s
def hX {K:Frag}{i:Value}{A:Around}{r:cq}{E:XK}:
  gW (yV (gm P w) P w K mg base N qual scope f i A r s H E) s.heap (gD K E) where
 th:=λp g h S I b o e=>(show Un (qG r) [] H h s.heap S.heap from I.base).there b o e (by simp)
 out:=λp g h S d C x I l c a=>D2 I l (a C c)
section
variable {g:Heap}{c:Expr}
def hZ (K:Frag)(X:XR):XK:=λc _ H=>∃x C,c=.ref C/\kj K x (.ref C)/\X x H
def gW.passes (x:gW X g xr):Passes (gm X.prog X.w) X (hZ X.K xr):=λp j H s e S I h=>by obtain⟨b,C,d,rfl,i,l,_,nm,f,E,c,a⟩:=PX I h g (x.th p j H s I);cases E;exact x.out p j d S b C nm i l c a
end
noncomputable def w6 (n:Nat)(m:Ex):Fn:=λs A=>(m (s.map some++List.replicate (n-s.length) none) A).bind λfl a=>match fl with|.rt w=>.ok w a|.nx _=>.ok .non a|_=>.bad
inductive To (C:Addr)(bmB:b0)(oB:String)(h:Heap):Prop
 |mk (tl N nm q bs hdct sn sub ab col dd k0 k1 k2 k3 k5 mN:_) (obj:h.get? C=some (excClassObj nm q C N bs tl hdct sn sub ab col dd k0 k1 k2 k3 k5 oB)) (ns:h.Ns N mN) (init:mN "__init__"=none) (tail:OwnTail h bmB tl)
noncomputable def h7 (d:Data):Option { c:ClassData // d=.cls c }:=match d with|.cls c=>some ⟨c,rfl⟩|_=>none
def Zx (K:Frag)(C:Addr)(b:b0)(n:String):Bool:=(K.lookup C).any λo=>(h7 o.data).any λc=>
 o.cls==.type "type" && c.1.mro==.ref C::c.1.mro.tail&&o.slots.toList==[o.slots.toList.getD 0 none,o.slots.toList.getD 1 none,o.slots.toList.getD 2 none,o.slots.toList.getD 3 none,some (.builtin n),o.slots.toList.getD 5 none]
  && c.1.hasDel==false&&PySem.W.tailIn K b c.1.mro.tail&&PySem.W.nsOkIn K c.1.ns&&nsIn K c.1.ns "__init__" == some none
def U7 {K:Frag}{C:Addr}{b:b0}{n:String}(X:K.In h)(q:Zx K C b n=true):To C b n h:=by obtain⟨⟨o,p,t,⟨sl⟩⟩,H,q⟩:=(any_eq_true _ _).mp q;obtain⟨⟨⟨nm,bs,M,N,Q,j,S,s,A,l,D⟩,i⟩,-,q⟩:=(any_eq_true _ _).mp q;simp only[ak,aL]at q;obtain⟨⟨⟨⟨⟨⟨g,f⟩,d⟩,c⟩,a⟩,e⟩,E⟩:=q;cases i;cases g;cases c;exact⟨M.tail,N,nm,Q,bs,j,S,s,A,l,p,_,_,_,_,_,_,X _ _ (by rw[H,f,d];rfl),.of_isNs (PySem.W.isNs_of_in X e),PySem.W.nsMap_none_of_in X e E,PySem.W.tail_of_in X a⟩
noncomputable def ND (x:Str)(M:Ea):Ex:=λa A=>(M a A).bind λ_ b=>.exc x b
section
variable {g:Heap}{es:ck}{np:Pos}{C:Addr}{B oB oG:String}{bmB:b0}
def h9 {e:Addr}{d:b0}(x:gW X g xr)(I:Inv X n9 σ H s)(m:Heap.MadeExcOf s.heap h' e (.ref C) d):
  Inv X n9 σ H { s with heap:=h' }/\gy H h' g e (.ref C):=by
 have N:∀b,s.heap.get? b=none->H b=none:=λb z=>by
  cases q:H b with|none=>rfl|some u=>obtain⟨o,k⟩:=(I.hok b u q).obj;rw[z]at k;cases k
 have n:∀b,s.heap.get? b=none->g.get? b=none:=λb z=>by
  cases q:g.get? b with|none=>rfl|some o=>obtain⟨i,k⟩:=x.th n9 σ H s I b o q;rw[z]at k;cases k
 obtain⟨t,f,a,h⟩:=m.there;refine⟨I.call' (ch:=[]) rfl ⟨λb o q _ _ _=>m.keeps b o q,λb o q _ _ _=>⟨o.slots,m.keeps b o q⟩,λb o q z _=>z,λb o q _=>⟨o,m.keeps b o q⟩,λ_ _ q=>q,λ_ _ _ q=>q,λb p q=>⟨#[],by rw[Array.append_empty];exact q⟩⟩
  (λb u q=>(I.hok b u q).stay (λc v _ z=>m.keeps c v z) (λ_ z=>z) λ_ _ z=>z) I.bare (λb z=>absurd z (by simp)),?_⟩
 exact⟨n e m.new,N e m.new,_,_,_,f,rfl,rfl,rfl,.inl rfl⟩
def BM (o:gW X g xr)(j:kj X.K x (.ref C))(ex:Zx X.K C bmB oB=true)(FB:ExcBaseFacts B oB oG bmB)(w:SA X xr (e::es) mr)(u:QN mr n)(hn:n<=sizeLine:=by decide)(v:Gl X x:=by rfl)(a:X.calm=true:=by rfl)
  (f:yy x:=by decide)(he:qR e es X:=by rfl)(l:kS oh es X:=by rfl):
  SS X xr (.Raise (some (.Call (.Name x np) (e::es) [] oh)) none og) (ND x mr):=by
 intro n9 s σ H D I ⟨φ,A,ρ,S,re,h⟩;have hm:=bX I.mod.kin I.mod.glob j;obtain⟨Z,N,nm,q,bs,hdct,sn,sub,ab,col,dd,k0,k1,k2,k3,k5,mN,J,z,d,T⟩:=U7 I.mod.kin ex;refine wpAny_Raise_call_subT (nm:=nm) (q:=q) (N:=N) (bs:=bs) (hdct:=hdct) (sn:=sn) (sub:=sub) (ab:=ab) (col:=col) (dd:=dd) (k0:=k0) (k1:=k1) (k2:=k2) (k3:=k3) (k5:=k5)
  FB (T.hasType FB.hasBase) (I.ok.hd a) (by rw[he];show(false || (backTo oh (starEach es X.env)).any (·.1))=false;rw[l];rfl) d (KL I v hm ⟨rfl,?_⟩ f)
 have b:=zW.mp h;have p:=w oh n9 s σ H (λvs H1=>vs.length<=sizeLine/\xr x H1) I ⟨φ,A,ρ,S,re,?_⟩
 ·rw[he]at p ⊢
  refine Calls.evalArgs_plain (wpAny_mono p (λus s2 h2=>?_) λ_ _ y=>y);obtain⟨vs,Y,i,r,hlen,t⟩:=h2;refine⟨rfl,?_,i.bk _ _ J,z.keeps i.bk,T.keeps i.bk,λh3 M m=>?_⟩
  ·rw[<- r.length];exact hlen
  ·obtain⟨U,L⟩:=h9 o i m
   exact o.out n9 σ Y _ M C x U L j t
 ·cases E:mr ρ A with
  |ok ws A1=>
   rw[E]at b;intro c H1 vs l1 P Q;refine⟨?_,b c H1 l1 P⟩;rw[<- Q.length,u ρ A ws A1 E];exact hn
  |exc y A1=>rw[E]at b;exact b|bad=>rw[E]at b;exact b
end
noncomputable def mJ:List Ev->Str->Ev
 |[],acc=>λ_ A=>.ok (.str acc) A|m::ms,acc=>λa A=>(m a A).bind λw b=>match w with|.str y=>if (acc++y).length<=sizeLine then mJ ms (acc++y) a b else .bad|_=>.bad
section
variable {es:ck}{m:Ev}{ms:List Ev}
inductive SJ (X:Cx)(xr:XR):List Expr->List Ev->Prop where
 |nil:SJ X xr [] []
 |cons {e:Expr} {es:ck} {m:Ev} {ms:List Ev} (h:SE X xr e m) (r:SJ X xr es ms):SJ X xr (e::es) (m::ms)
end
section
variable {A:Around}{e C:Addr}{oe:Obj}{bmB bmD:b0}{oB oD:String}{Q:Bool->Shared->Prop}
def NX (h:Heap)(C D:Addr):Prop:=∃o c,h.get? C=some o/\o.data=.cls c/\c.mro.contains (.ref D)=true
def E5 (U:To C bmB oB s.heap)(P:To D bmD oD s.heap)(b:bmD.contains (.type "BaseException")=true)(Y:s.heap.get? e=some oe)(h:oe.cls=.ref C)(up:NX s.heap C D)(l:Q true s):
  wpAny M A (excMatches (.ref e) (.ref D)) Q E s:=by
 obtain⟨T,N,nm,q,bs,J,sn,K,ab,col,dd,k0,k1,k2,k3,k5,w,c,_,_,_⟩:=U;obtain⟨t,I,n,u,p,a,i,S,r,g,o,z,l1,y,x,L,j,d,_,_,T2⟩:=P;obtain⟨v,cd,H,Z,X⟩:=up;rw[c]at H;cases H;cases Z;have B:(Value.ref D::t).contains (.type "BaseException")=true:=by rw[List.contains_cons,T2.hasType b,Bool.or_true]
 have f:=tc_notTuple
 repeat (first|(with_reducible refine wpAny_loadPart_at Y ?_;rw[h])|with_reducible refine wpAny_loadPart_at d ?_|with_reducible refine wpAny_loadPart_at c ?_|(with_reducible refine wpAny_isSubtype_exc d ?_;rw[B])|(with_reducible refine wpAny_isSubtype_exc c ?_;rw[X])|wp_step)
 exact l
end
section
variable {H0:Hp}{s0:Shared}{ea C:Addr}
def landed {T:Addr}{a0:Value}(g:Inv X n9 σ H0 s0)(I:Inv X n9 σ H s)(x:gy H s.heap s0.heap ea (.ref C))(nT:s0.heap.get? T=none)(hT:H T=none)
  (th:∀b o,s0.heap.get? b=some o->∃o',s.heap.get? b=some o')
  (fl:Heap.FlyingW (hideAll s.heap (ea::T::qG X.stack)) X.stack ea (.ref C) a0 h')(us:s.heap.UpToSlots h'):
  Inv X n9 σ H { s with heap:=h' }/\gy H h' s0.heap ea (.ref C)/\Tr h' ea/\∀b o,s0.heap.get? b=some o->∃o',h'.get? b=some o':=by
 obtain⟨st,_,ff,Z,vs,t,oT,M,he,⟨A,h0⟩,hd,h1,l,B,D,w,h3⟩:=fl;have ng:s0.heap.get? ea=none:=by cases x;assumption
 have nH:=by cases x;assumption
 have kept:∀b o,s.heap.get? b=some o->b∉qG X.stack->b≠ea->b≠T->h'.get? b=some o:=λb o q n1 j N=>st b o (bS _ q λhm=>by
  rcases cB.mp hm with z|hm
  ·exact j z
  rcases cB.mp hm with z|hm
  ·exact N z
  ·exact n1 hm)
 have slot:∀b o,s.heap.get? b=some o->b∈qG X.stack->∃sl,h'.get? b=some { o with slots:=sl }:=λb o q hm=>by obtain⟨_,o',h,f⟩:=I.stack.mem hm;rw[q]at h;cases h;exact us b o q f
 have off:∀b u,H b=some u->b∉qG X.stack/\b≠ea/\b≠T:=λb u q=>⟨λhm=>(by rw[I.stkFree b hm]at q;cases q),λz=>(by rw[z,nH]at q;cases q),λz=>(by rw[z,hT]at q;cases q)⟩
 have ne:∀b o,s0.heap.get? b=some o->b≠ea/\b≠T:=λb o q=>⟨λz=>(by rw[z,ng]at q;cases q),λz=>(by rw[z,nT]at q;cases q)⟩
 have any:=λb o o' Q q=>by
  by_cases hm:b∈qG X.stack
  ·exact slot b o q hm
  ·exact⟨o.slots,kept b o q hm (ne b o' Q).1 (ne b o' Q).2⟩
 have cell:∀y c,X.env.cells.lookup y=some c->∀v,s.heap.IsCell c v->h'.IsCell c v:=λy c e v ⟨o,K,hd⟩=>by obtain⟨_,o0,d,_⟩:=g.cell y c e;obtain⟨sl,z⟩:=any c o o0 d K;exact⟨_,z,hd⟩
 have inv:Inv X n9 σ H { s with heap:=h' }:=by
  refine⟨I.ok,I.os,I.bare,⟨λb o q n J nx=>?_,λb o q n hf nx=>?_,I.base.free,λb o q nx=>?_,I.base.tups,I.base.frzs,I.base.tbls⟩,?_,λy c e=>?_,I.free,I.freeC,λp hp=>?_,λb u q=>?_,I.len⟩
  ·have a:=I.base.keep b o q n J nx
   have Q:=g.base.keep b o q n J nx;refine kept b o a (λhm=>?_) (ne b o Q).1 (ne b o Q).2;rcases cB.mp (I.stkSub b hm) with z|z
   ·exact absurd (aE (aG q) I.ok.above) (by rw[z];exact aZ _)
   ·exact J z
  ·obtain⟨sl,a⟩:=I.base.slot b o q n hf nx
   obtain⟨sl0,Q⟩:=g.base.slot b o q n hf nx;obtain⟨S,z⟩:=any b _ _ Q a;exact⟨S,z⟩
  ·obtain⟨E,a⟩:=I.base.there b o q nx
   obtain⟨o0,Q⟩:=g.base.there b o q nx;obtain⟨sl,z⟩:=any b E o0 Q a;exact⟨_,z⟩
  ·obtain⟨m,⟨o,es,ep,K,r⟩,k⟩:=I.loc
   obtain⟨_,⟨o0,_,_,d,_⟩,_⟩:=g.loc;obtain⟨sl,z⟩:=any _ o o0 d K;refine⟨m,⟨_,es,ep,z,r⟩,λi y v e1 e2 e3=>?_⟩;obtain⟨u,ru,lk⟩:=k i y v e1 e2 e3;refine⟨u,ru,?_⟩;rcases lk with lk|⟨lk,c,ec,L⟩
   ·exact .inl lk
   ·exact .inr ⟨lk,c,ec,cell y c ec _ L⟩
  ·obtain⟨v,hv⟩:=I.cell y c e
   exact⟨v,cell y c e v hv⟩
  ·obtain⟨p1,p2,U,P,p5⟩:=I.pin p hp
   have Y:=(g.pin p hp).1;refine⟨kept _ _ p1 (λhm=>?_) (ne _ _ Y).1 (ne _ _ Y).2,p2,U,P,p5⟩;rcases cB.mp (I.stkSub _ hm) with z|z
   ·exact U z
   ·exact P z
  ·refine(I.hok b u q).stay (λc v L z=>?_) (λ_ z=>z) λ_ _ z=>z
   rcases L with e|e
   ·obtain⟨n1,j,N⟩:=off b u q
    rw[e]at z ⊢;exact kept b v z n1 j N
   ·obtain⟨n1,j,N⟩:=off c _ e
    exact kept c v z n1 j N
 have both:s0.heap.get? t=none/\H t=none:=by
  cases q:s.heap.get? t with
  |some o=>
   by_cases hm:t∈ea::T::qG X.stack
   ·rcases cB.mp hm with z|hm
    ·exact absurd z B
    rcases cB.mp hm with z|hm
    ·rw[z];exact⟨nT,hT⟩
    ·obtain⟨sl,z⟩:=slot t o q hm
     obtain⟨_,o',h,f⟩:=I.stack.mem hm;rw[q]at h;cases h;rw[D]at z;cases z;exact absurd w (f M)
   ·rw[bS _ q hm]at l;cases l
  |none=>
   constructor
   ·cases z:s0.heap.get? t with|none=>rfl|some o=>obtain⟨o',k⟩:=th t o z;rw[q]at k;cases k
   ·cases z:H t with|none=>rfl|some u=>obtain⟨o',k⟩:=(I.hok t u z).obj;rw[q]at k;cases k
 exact⟨inv,⟨ng,nH,Z,vs,a0,he,A,hd,h0,.inr ⟨t,oT,M,h1,B,both.1,both.2,D,w,h3⟩⟩,⟨Z,vs,t,he,hd,h1⟩,λb o q=>by obtain⟨E,a⟩:=th b o q;obtain⟨sl,z⟩:=any b E o q a;exact⟨_,z⟩⟩
def flying (I:Inv X n9 σ H s)(x:gy H s.heap s0.heap ea (.ref C))(r:Tr s.heap ea):
  ∃T A,s0.heap.get? T=none/\H T=none/\Heap.FlyingW (hideAll s.heap (ea::T::qG X.stack)) X.stack ea (.ref C) A s.heap:=by
 obtain⟨y,z,l,L,A,J,p,K,M,D⟩:=x;obtain⟨j,v,B,h,a,c⟩:=r;rw[J]at h;cases h;rw[K]at a;cases a;rcases D with D|⟨T,n,t,D,g,d,i,u,e,w⟩
 ·rw[D]at c;cases c
 ·have E:∀b∈ea::T::qG X.stack,(hideAll s.heap (ea::T::qG X.stack)).get? b=none:=λb f=>hideAll_none _ f
  exact⟨T,A,d,i,λb o q=>of_hideAll _ q,E ea (au ..),frames_at I.stack λb f=>E b (ao _ (ao _ f)),
   l,L,T,n,t,J,⟨p,M⟩,K,D,E T (ao _ (au ..)),g,u,e,w⟩
end
noncomputable def Wq (o:Obj):HO:=.frz o (.own 0)
noncomputable def JV (K:Frag)(C D:Addr):Bool:=match K.lookup C with|some ⟨_,_,.cls c,_⟩=>c.mro.contains (.ref D)|_=>false
def ia {K:Frag}{C:Addr}(X:K.In h)(e:JV K C D=true):NX h C D:=by
 unfold JV at e
 split at e
 ·rename_i H
  exact⟨_,_,X _ _ H,rfl,e⟩
 ·cases e
section
variable {H0:Hp}{s0:Shared}{ea C L:Addr}
def YY (i:Inv X n9 σ H0 s0)(I:Inv X n9 σ H s)(x:gy H s.heap s0.heap ea (.ref C)):∃a,a.cls=.ref C/\H ea=none/\Inv X n9 σ (upd H ea (Wq a)) s:=by
 obtain⟨l,d,a,J,A,D,r,_⟩:=x;refine⟨a,r,d,?_⟩;have w:∀b o,s0.heap.get? b=some o->b≠ea:=λb o q z=>by rw[z,l]at q;cases q
 have at_:∀b,b≠ea->upd H ea (Wq a) b=H b:=λb n=>by unfold upd;exact av n
 have N:∀b u,H b=some u->upd H ea (Wq a) b=some u:=λb u q=>by rw[at_ b λz=>by rw[z,d]at q;cases q];exact q
 refine⟨I.ok,I.os,I.bare,⟨I.base.keep,I.base.slot,λb o q n nx=>?_,I.base.there,λb B q=>N _ _ (I.base.tups b B q),λb o u q=>N _ _ (I.base.frzs b o u q),λb E q=>?_⟩,I.loc,I.cell,?_,λy c e=>?_,λp f=>?_,λb u q=>?_,I.len⟩
 ·obtain⟨t,Q⟩:=i.base.there b o q nx
  rw[at_ b (w b t Q)];exact I.base.free b o q n nx
 ·obtain⟨M,z⟩:=I.base.tbls b E q
  exact⟨M,N _ _ z⟩
 ·obtain⟨m,⟨t,_,_,h,_⟩,_⟩:=i.loc
  rw[at_ _ (w _ t h)];exact I.free
 ·obtain⟨v,t,h,_⟩:=i.cell y c e
  rw[at_ _ (w _ t h)];exact I.freeC y c e
 ·obtain⟨j,g,P⟩:=I.pin p f
  refine⟨j,?_,P⟩;rw[at_ _ (w _ _ (i.pin p f).1)];exact g
 ·by_cases z:b=ea
  ·subst z
   have:u=Wq a:=by unfold upd at q;rw[aj rfl]at q;exact(aB q).symm
   subst this;exact⟨D,⟨a,D⟩⟩
  ·rw[at_ b z]at q
   exact(I.hok b u q).stay (λ_ _ _ z=>z) (λc z=>N c _ z) λc B z=>N c _ z
def ib (X:Cx)(p:b9)(c:St)(S:Shared)(D:Addr)(k:Addr->Addr->Hp->Prop)(e:Value)(s:Shared):Prop:=
 ∃E C H B n,e=.ref E/\Inv X p c H s/\gy H s.heap S.heap E (.ref C)/\Tr s.heap E/\(∀b o,S.heap.get? b=some o->∃d,s.heap.get? b=some d)/\Mi.Zx X.K C B n=true/\JV X.K C D=true/\∀a,a.cls=.ref C->H E=none->k E C (upd H E (Wq a))
def ic {o n:Str}{l:b0}{oD:String}{s:cy}{B:Stmt}{np hp:Pos}{Q:Flow->Shared->Prop}{k:Addr->Addr->Hp->Prop}
  (I0:Inv X n9 σ H0 s0)(t:X.stack=X.env::X.outer)(hL:X.env.frame=some L)(hD:kj X.K o (.ref D))(exD:Mi.Zx X.K D l oD=true)(Y:l.contains (.type "BaseException")=true)
  (hN:X.N.Nodup)(hi:X.N[i]? =some n)(hx:Loc X.env.scope n)
  (y:qS X (execs body X.env) (λf s1=>f=.next/\Q .next s1) (ib X n9 σ s0 D k) s0)
  (b:∀E C H s2,Inv X n9 (σ.set i (some (.ref E))) H s2->k E C H->∀E',wpAny (model X.prog X.w) (X.A.mark (some (.ref E))) (execs (B::s) X.env)
   (λf s4=>qS X (do bindName X.env n .none;unbindBehindTheSuite X.env n hp) (λ_ s5=>Q f s5) X.xe s4) E' s2)
  (hg:Gl X o)(S:yy o:=by decide)(hf:QR X n:=by first|exact .inl rfl|exact .inr rfl|assumption):
  qS X (exec (.Try body [.ExceptHandler (some (.Name o np)) (some n) (B::s) hp] [] [] og) X.env) Q X.xe s0:=by
 refine wpAny_Try_except (wpAny_mono y (λf s1 ⟨ef,q⟩=>?_) λe s1 h=>?_)
 ·subst ef
  exact wpAny_execs_nil q
 obtain⟨E,C,H,bmC,newC,rfl,I,x,tr,th,exC,up,hk⟩:=h;obtain⟨T,a0,nT,hT,fl⟩:=flying I x tr;refine wpAny_looks_onW (by rw[<- t];exact I.ok.frames) hL (by rw[<- t];exact fl) λh₄ g d=>?_
 refine wpAny_landsW g λh₅ a U=>?_;obtain⟨c,p,r,z⟩:=landed I0 I x nT hT th (by rw[<- t]at a;exact a) (d.trans U)
 obtain⟨_,_,oe,_,_,he,hc,_⟩:=id p;refine wpAny_handleBy_cons (codeAny_handlers_test (Calls.Name_function_global c.ok.kind hg (Calls.loadGlobal_global (by rw[c.ok.glob];exact c.mod.glob.keeps c.bk) (bX I.mod.kin I.mod.glob hD) ?_) S)) (by intro q;cases q)
 refine E5 (U7 c.kIn exC) (U7 c.kIn exD) Y he hc (ia c.kIn up) ?_;refine codeAny_handlers_suite_as ?_;obtain⟨T',a0',M,Z,fl'⟩:=flying c p r;refine lands_againW fl' λh₆ j u=>?_;obtain⟨I6,x6,_,_⟩:=landed I0 c p M Z z j u;obtain⟨of,P,J,I7⟩:=YY I0 I6 x6;exact YD (v:=.ref E) I7 hN hi hx rfl (λs7 I7=>b E C _ s7 I7 (hk of P J) _) hf
end
section
variable {A:Around}
def name_goes {n:Str}{Q:Unit->Shared->Prop}(I:Inv X n9 σ H s)(Z:X.N.Nodup)(hi:X.N[i]? =some n)(T:X.env.scope.names.lookup n=some .local)
  (h:∀S,Inv X n9 (σ.set i none) H S->Q () S):wpAny M A (do bindName X.env n .none;unbindBehindTheSuite X.env n og) Q E s:=by
 obtain⟨m,hn,P⟩:=id I.loc;refine wpAny_nameGoes_keeps T hn (by rw[I.ok.kind];rfl) λh' v t r=>h _ ?_
 have old:∀b o,b≠X.env.locals->s.heap.get? b=some o->h'.get? b=some o:=λb o n q=>(r.2 b n).trans q;have nl:∀{b:Addr}{u:HO},H b=some u->b≠X.env.locals:=λq z=>by rw[z,I.free]at q;cases q
 have ab:∀{b:Addr}{k:Nat},b<k->k<=X.env.locals->b≠X.env.locals:=λl g=>aM (aE l g);refine⟨I.ok,I.os,I.bare,⟨λb o e z B x=>?_,λb o e z B x=>?_,I.base.free,λb o e x=>?_,I.base.tups,I.base.frzs,I.base.tbls⟩,⟨_,t,λj y D a f e3=>?_⟩,λy c e=>?_,I.free,I.freeC,λp L=>?_,λb u q=>?_,by simpa using I.len⟩
 ·exact old b o (ab (aG e) I.ok.above) (I.base.keep b o e z B x)
 ·obtain⟨sl,a⟩:=I.base.slot b o e z B x
  exact⟨sl,old b _ (ab (aG e) I.ok.above) a⟩
 ·obtain⟨o',a⟩:=I.base.there b o e x
  exact⟨o',old b _ (ab (aG e) I.ok.above) a⟩
 ·by_cases w:j=i
  ·subst w
   rw[aK (by rw[I.len];exact(cD.mp hi).1)]at f
   cases f
  ·rw[aH (Ne.symm w)]at f
   obtain⟨U,J,q⟩:=P j y D a f e3;refine⟨U,J,?_⟩;rcases q with ⟨k,e⟩|⟨k,c,e,z⟩
   ·have:y≠n:=λe=>w (VJ Z a (e ▸ hi))
    exact .inl ⟨k,by simp[this,e]⟩
   ·exact .inr ⟨k,c,e,z.sameBut r (I.cne y c e)⟩
 ·obtain⟨C,z⟩:=I.cell y c e
  exact⟨C,z.sameBut r (I.cne y c e)⟩
 ·obtain⟨e,z,ne,K,d⟩:=I.pin p L
  exact⟨old _ _ ne e,z,ne,K,d⟩
 ·refine(I.hok b u q).stay (λc v Y z=>old c v ?_ z) (λ_ z=>z) λ_ _ z=>z
  rcases Y with e|e
  ·rw[e];exact nl q
  ·exact nl e
def Ey {n y:Str}{E:Addr}{C Y D p:Pos}{Q:Flow->Shared->Prop}{x:cg}(I:Inv X n9 (σ.set i (some (.ref E))) H s)(a:X.N.Nodup)(z:X.N[i]? =some n)(o:X.N[j]? =some y)
  (h:X.env.scope.names.lookup n=some .local)(c:Loc X.env.scope y)(q:∀S,Inv X n9 (((σ.set i (some (.ref E))).set j (some (.ref E))).set i none) H S->Q .next S)
  (d:swapsWith (.Name n C) (some (.Name y Y)) D.line X.env=pure false)(M:QR X y)
  (b:yy n:=by decide):
  wpAny (model X.prog X.w) A (execs [.Assign [.Name y Y] (.Name n C) D] X.env) (λf J=>qS X (do bindName X.env n .none;unbindBehindTheSuite X.env n p) (λ_ B=>Q f B) X.xe J) x s:=by
 obtain⟨m,K,g⟩:=I.loc;obtain⟨u,r,l⟩:=g i n (.ref E) z (aK (by have:=I.len;rw[length_set]at this;rw[this];exact(cD.mp z).1)) (.inl h)
 obtain rfl:u=Value.ref E:=r;have L:m n=some (.ref E):=by
  rcases l with ⟨_,e⟩|⟨k|k,_⟩
  ·exact e
  ·rw[show X.env.kindOf n=some .local from h]at k;cases k
  ·rw[show X.env.kindOf n=some .local from h]at k;cases k
 refine wpAny_execs_cons (wpAny_Assign_Name (wpAny_Name (wpAny_loadName_local I.ok.kind h K L ?_) b) d);exact YD (v:=.ref E) I a o c rfl (λB t=>wpAny_execs_nil (name_goes t a z h q)) M
end
open PySem PySem.W PySem.Spec PySem.Calls PyProof.Rows Builtin Builtin.ObjectAttr Builtin.Getset_descriptor
section
variable {prog:Program}{A:Around}{K:Frag}{x:Addr}{o9:Str}
def ie {a g:Value}(X:K.In h)(b:findIn K (.ref D) o9=some (some a))(n:specialIn K a "__get__"=some (some g))(H:takesIn K a=some true):Looks M h (find (.ref x) (.ref D) o9) (.bind g a):=
 (looks_findIn X b).andThen ((show Looks M h (getOf (some a)) (some g) from looks_specialIn X n).andThen
  ((show Looks M h (dataDescriptor? (some a) (some g)) (some (g,a)) from (looks_takesIn X H).andThen .now).andThen (Looks.tag .now)))
def ig {t:Value}{R:Result->Shared->Prop}(X:K.In s.heap)(l:Looks (model prog w) s.heap (typeOf (.ref x)) (.ref D))(H:mroIn K D (.type "object")=some true)(h:R (.ok (.ret (.ref D))) s):
  codeAny (model prog w) A (.call (.builtin "getset_descriptor.__get__") ⟨[.builtin "object.__class__",.ref x,t],[]⟩) R s:=by
 have L:=looks_mroIn (M:=model prog w) X H;have sl:=KF.slot_gs;refine codeAny_call_builtin sl.plain KF.entry_gs (sl.check _ _ _ _ _ _ _ _ KF.type_class (KF.args_gs _ _ _) ?_);refine cz (cA ?_);unfold descrGetter descrCheckInstance isInstance descrNameAndClass;simp only[KF.owner_class]
 repeat lk
 refine And.intro (Code.quiet_builtin _ (by decide +kernel)) (codeAny_builtin KF.entry_class ?_)
 repeat lk
 exact h
def Dg {r:b0}{w:List (Str×Value)}{Q:Unit->Shared->Prop}(X:K.In s.heap)(L:Looks M s.heap (typeOf (.ref x)) (.ref D))(H:mroIn K D (.type "BaseException")=some true)
  (ok:argsOk "BaseException.__getattribute__" ⟨.ref x::r,w⟩)(h:Q () s):wpAny M A (checkBuiltinCall "BaseException.__getattribute__" ⟨.ref x::r,w⟩) Q E s:=by
 all_goals
  refine cz (cz (L.at ((looks_mroIn X H).at ?_)));exact(wpAny_of_eq ok h)
def Fd {Q:Option Value->Shared->Prop}(b:findIn K (.ref D) "__getattribute__"=some (some (.builtin "BaseException.__getattribute__")))(n:findIn K (.ref D) "__getattr__"=some none)
  (c:findIn K (.ref D) "__class__"=some (some (.builtin "object.__class__")))
  (f:specialIn K (.builtin "object.__class__") "__get__"=some (some (.builtin "getset_descriptor.__get__")))(H:takesIn K (.builtin "object.__class__")=some true)(i:mroIn K D (.type "object")=some true)(a:mroIn K D (.type "BaseException")=some true)
  (X:K.In s.heap)(L:Looks (model prog w) s.heap (typeOf (.ref x)) (.ref D))(h:Q (some (.ref D)) { s with toks:=s.toks+1 }):wpAny (model prog w) A (getAttr? (.ref x) "__class__") Q E s:=by
 obtain⟨e,g,d,t,o⟩:=s;refine cz (wpAny_mkText (cz (wpAny_attempt (wpAny_holding (cz (L.at (cz ((looks_findIn X b).at ?_))))))));refine cz ?_;refine(looks_findIn X n).at (cz (wpAny_attempt (wpAny_holding ?_)));refine wpAny_call (codeAny_call_builtin F.excAttr_ValueError.ga.plain F.entry_bexc_ga (Dg X L a (F.args_bexc_ga _ _) ?_));refine cz (wpAny_of_eq (show slotArgs "__getattribute__" 1 ⟨[.ref x]++[.str "__class__" t],[]⟩=pure (.ref x,[.str "__class__" t]) from rfl) ?_)
 refine cz (wpAny_of_eq (show attrName (.str "__class__" t)=pure ("__class__":Str) from rfl) (cz (L.at (cz ((ie X c f H).at ?_)))))
 refine cz (wpAny_holding (wpAny_call (ig X L i ?_)));refine cA ?_;exact handed_on rfl (cA h)
end
def UP (x D:Addr)(h:Heap):Prop:=∃o,h.get? x=some o/\o.cls=.ref D
def UP.ty {x:Addr}(p:UP x D h):Looks M h (typeOf (.ref x)) (.ref D):=by obtain⟨o,H,c⟩:=p;rw[<- c];exact(Looks.ld H).andThen .now
def Aa {K:Frag}{x:Addr}(d:(clsIn K D).isSome=true)(c:findIn K (.ref D) "__getattribute__"=some (some (.builtin "BaseException.__getattribute__")))(b:findIn K (.ref D) "__getattr__"=some none)(e:findIn K (.ref D) "__class__"=some (some (.builtin "object.__class__")))
  (j:specialIn K (.builtin "object.__class__") "__get__"=some (some (.builtin "getset_descriptor.__get__")))(H:takesIn K (.builtin "object.__class__")=some true)(l:mroIn K D (.type "object")=some true)(a:mroIn K D (.type "BaseException")=some true):
  KitX K (.ref x) (.ref D) (UP x D) where
 ty:=λ_ _ _ p=>p.ty
 it:=λ_ _ X _=>by
  obtain⟨C,h⟩:=Option.isSome_iff_exists.mp d;unfold clsIn at h
  split at h
  ·rename_i g u f s o
   intro A Q E S k q;exact cz (wpAny_loadPart (k _ _ (X D _ o)) (cA q))
  ·cases h
 ne:=λ_ T r i n sl X t=>by
  obtain⟨C,h⟩:=Option.isSome_iff_exists.mp d;rw[Bool.eq_false_iff];intro q;cases Value.ref.inj (aL.mp q);unfold clsIn at h
  split at h
  ·rename_i o
   cases (X _ _ o).symm.trans t
  ·cases h
 ca:=λX p k=>Fd c b e j H l a X p.ty k
noncomputable def K4 (K:Frag)(C:Addr):Bool:=(PySem.W.clsIn K C).isSome&&(PySem.W.findIn K (.ref C) "__getattribute__" == some (some (.builtin "BaseException.__getattribute__")))&&(PySem.W.findIn K (.ref C) "__getattr__" == some none)&&(PySem.W.findIn K (.ref C) "__class__" == some (some (.builtin "object.__class__")))&&
 (PySem.W.specialIn K (.builtin "object.__class__") "__get__" == some (some (.builtin "getset_descriptor.__get__")))&&(PySem.W.takesIn K (.builtin "object.__class__")==some true)&&(PySem.W.mroIn K C (.type "object")==some true)&&(PySem.W.mroIn K C (.type "BaseException")==some true)
section
variable {A:Around}{c:Value}{b:Bool}{ea C:Addr}
def ij {o:Obj}{u:HO}(I:Inv X n9 σ H s)(e:H ea=some (.frz o u))(d:o.cls=.ref C)(k:K4 X.K C=true)(q:kitOne X.K (.ref C) c=some b)(h:∀tk,Q (.bool b) { s with toks:=tk }):
  wpAny (model X.prog X.w) A (call (.builtin "isinstance") [.ref ea,c]) Q E s:=by
 unfold K4 at k;simp only[ak,aL]at k;obtain⟨⟨⟨⟨⟨⟨⟨p,n⟩,a⟩,l⟩,i⟩,j⟩,g⟩,f⟩:=k;exact kia_one (Aa p n a l i j g f) I.kIn (⟨o,(show jk X.prog X.w H s.heap ea (.frz o u) from I.hok ea _ e).1,d⟩) q (λz=>nomatch z) h
def ik (I:Inv X n9 σ H s)(q:kitOne X.K (.type "NoneType") c=some b)(h:∀tk,Q (.bool b) { s with toks:=tk }):wpAny (model X.prog X.w) A (call (.builtin "isinstance") [.none,c]) Q E s:=
 Oe I (x:=.non) rfl .non q h
end
def Qj (P:Program)(w:World)(K:Frag)(M:cn)(B:Heap)(N:cf)(qual:Str)(scope:Scope)(f:Addr)(c:Value)(cl:cu)(A:Around)(o:cq)(s:Shared)(H:Hp)(E:XK):Cx where
 prog:=P
 w:=w
 K:=K
 mg:=M
 base:=B
 A:=A.deeper (envX qual scope s.heap.objs.size f c cl)
 N:=N
 s0:=s
 H0:=H
 env:=envX qual scope s.heap.objs.size f c cl
 outer:=o
 stack:=envX qual scope s.heap.objs.size f c cl::o
 ex:=[]
 calm:=true
 fn:=λ_=>false
 pn:=[]
 xe:=λe a=>wpAny (model P w) (A.deeper (envX qual scope s.heap.objs.size f c cl)) (leaving (envX qual scope s.heap.objs.size f c cl) e) (λ_ S=>gm P w o H s E e S) (λb S=>gm P w o H s E b S) a
section
variable {K:Frag}{cd:Value}{cl:cu}{A:Around}{outer:cq}{E:XK}
def D7 {h:Hp}{d C:Addr}(I:Inv (Qj P w K mg base N qual scope f cd cl A outer s H E) n9 σ h s')(x:gy h s'.heap s.heap d (.ref C))(i:E (.ref C) none h):
  (Qj P w K mg base N qual scope f cd cl A outer s H E).xe (.ref d) s':=by
 have bs:Un (qG outer) [] H h s.heap s'.heap:=I.base;have mem:∀b,b∈qG (envX qual scope s.heap.objs.size f cd cl::outer)↔b=s.heap.objs.size∨b∈qG outer:=λb=>by exact bL
 refine Mm I.ok.frames rfl I.stack x (λb u e=>(I.hok b u e).obj) (λb o e=>bs.there b o e (by simp)) λj p D X t=>?_
 have r:∀b u,h b=some u->b∉qG (envX qual scope s.heap.objs.size f cd cl::outer):=λb u e l=>by rw[I.stkFree b l]at e;cases e
 refine⟨d,C,h,rfl,I.os,I.bare,⟨λb o e n B _=>?_,λb o e n M _=>?_,λb o e n a=>bs.free b o e n a,λb o e a=>?_,bs.tups,bs.frzs,bs.tbls⟩,λb u e=>?_,X,t,i⟩
 ·have L:b≠s.heap.objs.size:=λz=>by rw[z,(Heap.get?_none_of_le (ax _))]at e;cases e
  exact p b o (bs.keep b o e n B (by simp)) (λl=>(mem b).mp l |>.elim L B) (.inl ⟨o,e⟩)
 ·obtain⟨sl,q⟩:=bs.slot b o e n M (by simp)
  obtain⟨S,Q⟩:=D b _ q ((mem b).mpr (.inr M));exact⟨S,Q⟩
 ·obtain⟨y,q⟩:=bs.there b o e a
  by_cases l:b∈qG (envX qual scope s.heap.objs.size f cd cl::outer)
  ·obtain⟨sl,z⟩:=D b y q l;exact⟨_,z⟩
  ·exact⟨y,p b y q l (.inl ⟨o,e⟩)⟩
 ·refine(I.hok b u e).stay (λc v g q=>?_) (λ_ q=>q) λ_ _ q=>q
  rcases g with z|z
  ·rw[z]at q ⊢;exact p b v q (r b u e) (.inr ⟨u,e⟩)
  ·exact p c v q (r c _ z) (.inr ⟨_,z⟩)
def il:gW (Qj P w K mg base N qual scope f cd cl A outer s H E) s.heap (gD K E) where
 th:=λp g h S I b o e=>(show Un (qG outer) [] H h s.heap S.heap from I.base).there b o e (by simp)
 out:=λp g h S d C x I l c a=>D7 I l (a C c)
structure VO (N:cf)(sc:Scope):Prop where
 kind:sc.kind=.function
 co:sc.isCoroutine=false
 gen:sc.isGenerator=false
 nocell:∀y∈sc.names,y.2≠.cell
structure Gz (base:Heap)(N:cf)(scope:Scope)(cl:cu)(vs:List V):Prop where
 len:vs.length=N.length
 inj:∀x y c,cl.lookup x=some c->cl.lookup y=some c->x=y
 has:∀x,scope.names.lookup x=some .free->∃c,cl.lookup x=some c
 cell:∀x c,cl.lookup x=some c->∃v,base.IsCell c v
 val:∀(i:Nat)(x:Str)(v:V),N[i]? =some x->vs[i]? =some v->∃c u,scope.names.lookup x=some .free/\cl.lookup x=some c/\base.IsCell c (some u)/\RelV v u
def ip {I:Heap}{T:Tok}(S:VO N scope)(L:A.handled=none)(d:Wr P w K mg base A outer s H)(C:Gz base N scope cl vs)(j:∃m,I.Ns s.heap.objs.size m)(l:∀b o,s.heap.get? b=some o->I.get? b=some o):
  Inv (Qj P w K mg base N qual scope f cd cl A outer s H E) [] (L2.start N vs) H { s with heap:=I,toks:=T }:=by
 have n:∀b:Addr,b∉(Qj P w K mg base N qual scope f cd cl A outer s H E).ex:=λb z=>absurd (show b∈([]:b8) from z) (by simp)
 have bk:∀c v,base.IsCell c v->I.IsCell c v/\H c=none:=λc v ⟨o,q,L⟩=>⟨⟨o,l _ _ (d.bs _ _ q).1,L⟩,(d.bs _ _ q).2⟩;obtain⟨m,M⟩:=j;refine⟨⟨d.mod,S.kind,rfl,rfl,ax _,C.inj,λy g=>?_,λy c z _=>(nomatch z),λ_=>L,Around.frames_deeper d.frames,.inr ⟨rfl,rfl⟩,λb z=>absurd z (n b),d.bs,d.bsz,λb _ _=>n b,λb z=>absurd z (n b),d.funs,d.frf⟩,
  rfl,d.bare,Un.kept l,⟨m,M,λi y v I D B=>?_⟩,λy c h=>?_,d.hok.fresh (ax _),λy c h=>?_,λp t=>absurd (show p∈([]:b9) from t) (by simp),d.hok.kept l,?_⟩
 ·have g:=g
  rcases g with g|g
  ·exact absurd rfl (S.nocell _ (PySem.mem_of_lookup g))
  ·exact C.has y g
 ·have J:i<vs.length:=by
   unfold L2.start at D
   by_cases J:i<vs.length
   ·exact J
   ·rw[az (by simpa using J)]at D
    rw[bF]at D
    split at D<;>cases D
  have x:vs[i]? =some v:=by
   unfold L2.start at D;rw[aq (by simpa using J),ar]at D
   cases e:vs[i]? with|none=>rw[e]at D;cases D|some a=>rw[e]at D;cases D;rfl
  obtain⟨c,u,k,e,z,r⟩:=C.val i y v I x;exact⟨u,r,.inr ⟨.inr k,c,e,(bk _ _ z).1⟩⟩
 ·obtain⟨v,z⟩:=C.cell y c h
  exact⟨v,(bk _ _ z).1⟩
 ·obtain⟨v,z⟩:=C.cell y c h
  exact(bk _ _ z).2
 ·unfold L2.start
  show _=N.length;rw[ai,ah,bN,C.len];lia
def N5 (o:Obj)(q:Str):Prop:=∃v t,o.data=.fields v/\v[1]? =some (.str q t)
def iq {k:Nat}{o9:Str}{params:Arguments}{body:Expr}{pm ctv:Value}{l:Obj}{u uc:HO}{m:Ev}(S:VO N scope)(C:Gz base N scope cl vs)(p:N5 l qual)
  (f:∀(A:Around)(outer:cq)(s:Shared)(H:Hp)(E:XK),jb k (A.deeper (envX qual scope s.heap.objs.size a (.ref c) cl))->gW (Qj P w K mg base N qual scope a (.ref c) cl A outer s H E) s.heap (gD K E)->
   SE (Qj P w K mg base N qual scope a (.ref c) cl A outer s H E) (gD K E) body m):
  yu P w K mg base (gm P w) (k+1) a (kla_fn o9 qual params body scope cl pm (.ref c) ctv) [] (λus H Q E=>us=[]/\H a=some (.frz (kla_obj o9 qual params body scope cl pm c ctv) u)/\H c=some (.frz l uc)/\
   ∃φ A ws,zJ K φ A H/\zB K φ H ws vs/\(m (ws.map some) A).post (PB K φ H Q) (EB K φ H (gD K E))):=by
 refine⟨λus H Q E h=>by rw[h.1];rfl,λA outer s H oA us D Q E n j hb r h=>?_⟩
 obtain⟨rfl,h1,h2,φ,A1,ws,Sm,B,Y⟩:=h;have Z:=(show jk P w H s.heap a (.frz _ u) from j.hok a _ h1).1
 have hc:=(show jk P w H s.heap c (.frz l uc) from j.hok c _ h2).1
 have lim:=j.mod.nolimit.keeps λb o e=>(j.bs b o e).1;obtain⟨L,T,z,hd2⟩:=p;refine PySem.W.kla_callFunE n.depth Z rfl S.co S.gen rfl ⟨c,l,L,T,rfl,hc,z,hd2⟩ (hb _ _ _ _ ?_);refine wpAny_newFunctionEnv S.nocell (λy U=>absurd (show y∈([]:List (Str×Value)) from U) (by simp)) (λg t i=>⟨lim.fresh _ i,?_⟩) S.kind
 have d:=λb o e=>i.extBut b o (aM (aG e)) (af _ e);have I:∀tk,Inv (Qj P w K mg base N qual scope a (.ref c) cl A outer s H E) [] (L2.start N vs) H { s with heap:=g,toks:=tk }:=λtk=>ip S n.hd j C ⟨_,t⟩ d
 refine PySem.W.kla_codeExpr (wpAny_mono (f A outer s H E (n.deeper _) il [] _ (L2.start N vs) H Q (I _) ⟨φ,A1,_,Sm,RE.start B,?_⟩) (λv s' X=>?_) λ_ _ y=>y)
 ·have:N.length-ws.length=0:=by rw[B.length,C.len];lia
  rw[this,List.replicate_zero,bq];exact Y
 ·obtain⟨x,H',J,M,q⟩:=X
  exact⟨x,H',J.os,J.bare,J.base,J.hok,M,q⟩
end
inductive zdP (K:Frag)(a:Addr)(ob:Obj)(u:HO)(c:Addr)(oc:Obj)(uc:HO)(vs:List V)(g:Fn)(us:List V)(H:Hp)(Q:VK)(E:XK):Prop
 |mk (e:us=[]) (h1:H a=some (.frz ob u)) (h2:H c=some (.frz oc uc)) (φ:b8) (A:Hx) (ws:List W) (S:zJ K φ A H) (r:zB K φ H ws vs) (q:(g ws A).post (PB K φ H Q) (EB K φ H (gD K E)))
def Jj (P:Program)(w:World)(K:Frag)(M:cn)(b:Heap)(j:Nat)(p:ku)(g:Fn):Prop:=
 ∀a ob u c o U v,p ob c o v->(∃f,ob.data=.func f)/\∃f,yu P w K M b (gm P w) j a f [] (zdP K a ob u c o U v g)/\∀s,BindsTo s f ⟨[],[]⟩ []
open Classical in
noncomputable def TR (i:Nat)(PG:Nat->ku)(l:Nat->Fn):Ev:=λa A=>match a[i]? with|some (some (.clo k ws P))=>if P=PG k then l k ws A else .bad|_=>.bad
def Wv (i j l:Nat)(c:cf)(PG:Nat->ku)(L:Nat->Fn):Ex:=λa A=>match TR i PG L a A with|.ok _ b=>.ok (.nx a) b|.exc x b=>if c.contains x then .ok (.nx (((a.set l (some (.xc x))).set j (some (.xc x))).set l none)) b else .bad|.bad=>.bad
section
variable {K:Frag}
def RE.unset (r:RE K φ H ρ σ):RE K φ H (ρ.set i none) (σ.set i none):=
 ⟨by simp[r.len],λj u e=>by
  by_cases h:i=j
  ·subst h
   have a:=by
    have:=(cD.mp e).1
    simpa using this
   rw[aK a]at e;cases e
  ·rw[aH h]at e
   obtain⟨x,c,b⟩:=r.get j u e;exact⟨x,by rw[aH h];exact c,b⟩⟩
end
def Li (K:Frag)(c:b8)(H:Hp)(d:En)(j l:Nat)(D:Ends)(x:Str)(A:Hx):Prop:=∀a h b,Le K c H a h->zJ K a A h->RE K a h (((d.set l (some (.xc x))).set j (some (.xc x))).set l none) b->D.nx b h
inductive zfl (K:Frag)(φ:b8)(H:Hp)(ρ:En)(j l:Nat)(D0:Ends)(ea C:Addr)(H':Hp):Prop
 |mk (xn:Str) (ox:b8) (A':Hx) (le:Le K φ H ox H') (S:zJ K ox A' H') (rv:RV K ox H' (.xc xn) (.ref ea)) (n:Li K φ H ρ j l D0 xn A')
inductive zfC (K:Frag)(φ:b8)(H:Hp)(ρ:En)(j l:Nat)(D0:Ends)(cs:cf)(Cv:Value)(d:cx)(H1:Hp):Prop
 |mk (xn:Str) (Ca:Addr) (e:Cv=.ref Ca) (hC:kj K xn (.ref Ca)) (hc:cs.contains xn=true) (o5:b8) (A1:Hx) (le:Le K φ H o5 H1) (S:zJ K o5 A1 H1) (n:Li K φ H ρ j l D0 xn A1)
def Lp (K:Frag)(f:Str->Option Bool)(c:V):List V->Hp->VK->Prop:=λX H Q=>∃x,X=[x,c]/\((x=.non/\Q (.bl false) H)∨∃a o u C nm b,x=.ref a/\H a=some (.frz o u)/\o.cls=.ref C/\kj K nm (.ref C)/\f nm=some b/\Q (.bl b) H)
structure We (K:Frag)(f:Str->Option Bool)(c:Value):Prop where
 non:kitOne K (.type "NoneType") c=some false
 exc:∀nm C b,f nm=some b->kj K nm (.ref C)->K4 K C=true/\kitOne K (.ref C) c=some b
def yw (f:Str->Option Bool)(m:Ev):Ev:=λc A=>(m c A).bind λw a=>match w with
 |.non=>.ok (.bl false) a|.xc nm=>(match f nm with|some b=>.ok (.bl b) a|none=>.bad)
 |_=>.bad
section
variable {m:Ev}{f:Str->Option Bool}
def OB {cv:V}{c:Value}(e:We X.K f c)(l:∀u,RelV cv u->u=c):jU X (.builtin "isinstance") (Lp X.K f cv):=by
 intro p s w H y z Q I r h;obtain⟨x,rfl,h⟩:=h;obtain⟨u,j,rfl,ru,d⟩:=vals2 r;cases l _ d;rcases h with ⟨rfl,q⟩|⟨a,o,U,C,nm,b,rfl,h1,h2,i,g,q⟩
 ·cases (show u=Value.none from ru)
  exact ik I e.non λt=>⟨.bl false,H,I.tok t,rfl,q⟩
 ·cases (show u=Value.ref a from ru)
  obtain⟨v,n⟩:=e.exc nm C b g i;exact ij I h1 h2 v n λt=>⟨.bl b,H,I.tok t,rfl,q⟩
def yw.read {j:V}{t:TE}(n:∀σ H Q,Q j H->t σ H Q):∀σ H Q,tM X.K xr (yw f m) σ H Q->WM (Lp X.K f j) (Xp (tM X.K xr m) (Xp t TV)) σ H Q:=by
 rintro σ H Q ⟨p,A,x,S,r,h⟩
 refine tM.go S r (zW.mp h) λw y c i v g l s q=>?_;refine n σ i _ ?_;cases w with
 |non=>
  obtain rfl:=q;exact⟨.non,rfl,.inl ⟨rfl,g c i _ l s rfl⟩⟩
 |xc nm=>
  dsimp only at g;cases e:f nm with
  |none=>rw[e]at g;exact g.elim|some b=>
   rw[e]at g;obtain⟨a,o,u,C,rfl,d,Z,z⟩:=q;exact⟨.ref a,rfl,.inr ⟨a,o,u,C,nm,b,rfl,d,Z,z,e,g c i _ l s rfl⟩⟩
 |bl _=>exact g.elim|int _=>exact g.elim|str _=>exact g.elim|tup _=>exact g.elim|ref _=>exact g.elim|clo _ _ _=>exact g.elim
end
def HN {a b:Int}{c C:Value}(l:b0)(h:TriplesOk l)(e:codeAmong og (l++[rawInt a,rawInt b,c])=some C):codeAmong og l=some C∨C=c:=by
 fun_induction TriplesOk l with
 |case1=>
  right
  simp only[nil_append,codeAmong,rawInt]at e
  split at e
  ·exact(aB e).symm
  ·cases e
 |case2 A t B u x r i=>
  simp only[List.cons_append,codeAmong]at e ⊢
  split at e
  ·rename_i H;rw[aj H];exact .inl e
  ·rename_i H;rw[av H];exact i h e
 |case3 l f d=>exact h.elim
def BMain (M:cn)(b:Heap):Prop:=∃B o,M "__builtins__"=some (.ref B)/\B≠builtinsNs/\B≠mainGlobals/\b.get? B=some o/\o.cls=.type "module" /\ o.dict=some builtinsNs/\o.data=.plain
def XC (q:Str)(p:Arguments)(b:Expr)(scope:Scope)(C:cu):ku:=λob c o _=>(∃P v,ob=kla_obj "<lambda>" q p b scope C P c v)/\N5 o q
noncomputable def Y8 (n:Nat)(q:Str)(P:Addr)(k:Nat)(p:ku):Ev:=λ_ A=>match A[n]? with|some (.tab Q P')=>if Q=q/\P'=P then .ok (.clo k [] p) A else .bad|_=>.bad
section
variable {k:Nat}{q:Str}{P:Addr}{params:Arguments}{body:Expr}{oE:cu}
def ir (hB:BMain X.mg X.base)(B:X.env.code=.ref c)(C:CodeHd X.base c P)(hcl:closureFor scope X.env=pure oE)(hq:X.env.qual ++ "<lambda>"=q)(hdef:defaultsOf params X.env=([],[]):=by rfl):
  SE X xr (.Lambda params body scope og) (Y8 n q P k (XC q params body scope oE)):=by
 intro n9 s σ H Q I ⟨φ,A,ρ,S,re,h⟩;unfold Y8 at h;cases Z:A[n]? with
 |none=>rw[Z]at h;exact h.elim|some o=>
  rw[Z]at h;cases o with
  |tab Y P'=>
   dsimp only at h
   by_cases hc:Y=q/\P'=P
   ·rw[aj hc]at h
    obtain⟨rfl,rfl⟩:=hc;obtain⟨a,ha,eaP,ps,x,U⟩:=S.ob n _ Z;subst eaP;have hP:=(show jk X.prog X.w H s.heap a (.tbl ps) from I.hok a _ x)
    have hg:=I.mod.glob.keeps I.bk;have hgP:mainGlobals≠a:=λz=>by obtain⟨o,es,ep,e,hd,_⟩:=hg;rw[z,hP]at e;cases e;cases hd
    have t:s.heap.BuiltinsAt X.mg a:=by
     obtain⟨bm,o,b1,b2,b3,b4,b5⟩:=hB;refine⟨bm,o,b1,b2,b3,λz=>?_,I.bk _ _ b4,b5⟩
     have:=(I.bs _ _ b4).2
     rw[z,x]at this;cases this
    refine PySem.W.kla_eval hdef ?_;rw[hq];have L:∀b,s.heap.objs.size<=b->H b=none:=λb t=>I.hok.fresh t;cases hf:codeAmong og ps.toList with
    |none=>
     refine PySem.W.kla_makeFunction hcl I.ok.glob hg B (C.keeps I.bk) hP U.1 hf hgP t λg ctv f tk hx y T hrec htb=>?_;obtain⟨c2,j,vc,tc,ec,hoc,E,hd2⟩:=hrec;cases ec;generalize l:kla_obj "<lambda>" Y params body scope oE ((X.mg "__name__").getD .none) g ctv=ob;have hPc:=aG hP;have nPc:=aM (aE hPc y);have nPf:=aM (lt_trans (aE hPc y) T);have M:=aM T;have hsf:=bo y (bJ T);have J:=L g y;have r:=L _ hsf;have H1f:upd H g (.frz j (.own 0)) f.objs.size=none:=by rw[qh (Ne.symm M)];exact r
     generalize D:ps++#[rawInt og.line,rawInt og.col,.ref g]=p at htb;have fz:∀b o u,upd (upd H g (.frz j (.own 0))) f.objs.size (.frz ob (.own 0)) b=some (.frz o u)->upd (upd (upd H g (.frz j (.own 0))) f.objs.size (.frz ob (.own 0))) a (.tbl p) b=some (.frz o u):=λb o u e=>by rw[qh];exact e;intro z;rw[z,qh nPf,qh nPc,x]at e;cases e
     have fz0:∀b o u,H b=some (.frz o u)->upd (upd H g (.frz j (.own 0))) f.objs.size (.frz ob (.own 0)) b=some (.frz o u):=λb o u e=>by rw[qh (kI e r),qh (kI e J)];exact e
     have tg':Ws (upd (upd (upd H g (.frz j (.own 0))) f.objs.size (.frz ob (.own 0))) a (.tbl p)) Y p:=by
      rw[<- D];refine⟨by rw[Array.toList_append];exact TriplesOk_snoc _ _ _ _ U.1,λpos' cv e=>?_⟩
      rw[Array.toList_append]at e;rcases HN _ U.1 e with e|e
      ·obtain⟨c0,oc0,u0,vs0,t0,g1,g2,g3⟩:=U.2 pos' cv e
       exact⟨c0,oc0,u0,vs0,t0,g1,by rw[D];exact fz _ _ _ (fz0 _ _ _ g2),g3⟩
      ·exact⟨g,j,.own 0,vc,tc,e,by rw[D];exact fz _ _ _ (by rw[qh M,jD]),E,hd2⟩
     obtain⟨l3,S3⟩:=((S.lay J).lay H1f).write (o':=.tab Y a) Z rfl rfl ha ⟨rfl,p,jD,tg'⟩;have l03:=((Le.new J).trans (Le.new H1f)).trans l3;have set3:A.set n (.tab Y a)=A:=by
      apply ext_getElem?
      intro i
      by_cases hi:n=i
      ·subst hi
       rw[aK (cD.mp Z).1,Z]
      ·rw[aH hi]
     rw[set3]at S3;have eP:upd (upd (upd H g (.frz j (.own 0))) f.objs.size (.frz ob (.own 0))) a (.tbl p) a=some (.tbl p):=jD;have ec:upd (upd (upd H g (.frz j (.own 0))) f.objs.size (.frz ob (.own 0))) a (.tbl p) g=some (.frz j (.own 0)):=by rw[qh (Ne.symm nPc),qh M,jD]
     have ef:upd (upd (upd H g (.frz j (.own 0))) f.objs.size (.frz ob (.own 0))) a (.tbl p) f.objs.size=some (.frz ob (.own 0)):=by rw[qh (Ne.symm nPf),jD]
     have K:∀b,b≠a->b≠g->b≠f.objs.size->upd (upd (upd H g (.frz j (.own 0))) f.objs.size (.frz ob (.own 0))) a (.tbl p) b=H b:=λb n1 n2 n3=>by rw[qh n1,qh n3,qh n2]
     generalize upd (upd (upd H g (.frz j (.own 0))) f.objs.size (.frz ob (.own 0))) a (.tbl p)=H3 at S3 l03 eP ec ef K;have kp:∀b o,b≠a->s.heap.get? b=some o->(f.push ob).get? b=some o:=λb o n e=>af _ (hx b o n e);have old:∀b o,s.heap.get? b=some o->b≠g/\b≠f.objs.size:=λb o e=>⟨aM (aE (aG e) y),aM (aE (aG e) hsf)⟩;have N:∀b u,H b=some u->b≠g/\b≠f.objs.size:=λb u e=>⟨kI e J,kI e r⟩;have gP:(f.push ob).get? a=some (tabObj p):=af _ htb;have I3:Inv X n9 σ H3 { s with heap:=f.push ob,toks:=tk }:=by
      refine I.un ⟨λb o e z t _=>?_,λb o e z t _=>?_,λb o e z _=>?_,λb o e _=>?_,λb xs e=>?_,λb o u e=>?_,λb qs e=>?_⟩ λb u e=>?_
      ·exact kp b o (λw=>by rw[w,x]at z;cases z) e
      ·exact⟨o.slots,kp b o (λw=>by rw[w,x]at z;cases z) e⟩
      ·rw[K b (λw=>by rw[w,x]at z;cases z) (old b o e).1 (old b o e).2];exact z
      ·by_cases t:b=a
       ·rw[t];exact⟨_,gP⟩
       ·exact⟨o,kp b o t e⟩
      ·rw[K b (YU e x (by intro w;cases w)) (N b _ e).1 (N b _ e).2];exact e
      ·rw[K b (YU e x (by intro w;cases w)) (N b _ e).1 (N b _ e).2];exact e
      ·by_cases t:b=a
       ·subst t
        rw[x]at e;cases e;exact⟨_,by rw[eP,<- D]⟩
       ·exact⟨#[],by rw[K b t (N b _ e).1 (N b _ e).2,e];simp⟩
      ·by_cases h1:b=a
       ·subst h1
        rw[eP]at e;cases e;exact gP
       ·by_cases h2:b=g
        ·subst h2
         rw[ec]at e;cases e;exact⟨af _ hoc,⟨_,af _ hoc⟩⟩
        ·by_cases h3:b=f.objs.size
         ·subst h3
          rw[ef]at e;cases e;exact⟨ay _ (by rw[<- l];rfl),⟨_,ay _ (by rw[<- l];rfl)⟩⟩
         ·rw[K b h1 h2 h3]at e
          refine(I.hok b u e).stay (λd v hd z=>kp d v ?_ z) (λd z=>?_) λd xs z=>?_
          ·rcases hd with w|w
           ·rw[w];exact h1
           ·exact YU w x (by intro w;cases w)
          ·rw[K d (YU z x (by intro w;cases w)) (N d _ z).1 (N d _ z).2];exact z
          ·rw[K d (YU z x (by intro w;cases w)) (N d _ z).1 (N d _ z).2];exact z
     exact⟨.ref f.objs.size,H3,I3,rfl,h φ H3 _ l03 S3 ⟨f.objs.size,ob,.own 0,g,j,.own 0,[],rfl,ef,ec,⟨⟨_,_,l.symm⟩,vc,tc,E,hd2⟩,rfl⟩⟩
    |some cv=>
     obtain⟨g,j,u0,vc,tc,rfl,hHc,E,hd2⟩:=U.2 og cv hf;refine PySem.W.kla_makeFunctionHit hcl I.ok.glob hg B (C.keeps I.bk) hP U.1 hf t λctv f tk hx hsz=>?_;generalize l:({ cls:=.type "function",data:=.func (kla_fn "<lambda>" Y params body scope oE ((X.mg "__name__").getD .none) (.ref g) ctv) }:Obj)=ob;have r:=L _ hsz;have I3:Inv X n9 σ (upd H f.objs.size (.frz ob (.own 0))) { s with heap:=f.push ob,toks:=tk }:=
      I.laid (λb o e=>af _ (hx b o e)) hsz ⟨ay _ (by rw[<- l];rfl),⟨_,ay _ (by rw[<- l];rfl)⟩⟩
     refine⟨.ref f.objs.size,_,I3,rfl,h φ _ _ (Le.new r) (S.lay r) ⟨f.objs.size,ob,.own 0,g,j,u0,[],rfl,jD,?_,⟨⟨_,_,l.symm⟩,vc,tc,E,hd2⟩,rfl⟩⟩;rw[qh (kI hHc r)];exact hHc
   ·rw[av hc]at h;exact h.elim
  |_=>exact h.elim
end
structure Lm where
 N:cf
 idx:cb
 params:Arguments
 body:Expr
 scope:Scope
 m:Ev
noncomputable def J0:List Nat->En->Option (List W)
 |[],_=>some []|j::J,ρ=>match ρ[j]?,J0 J ρ with|some (some w),some ws=>some (w::ws)|_,_=>none
noncomputable def QL:List Nat->St->Option (List V)
 |[],_=>some []|j::J,σ=>match σ[j]?,QL J σ with|some (some w),some ws=>some (w::ws)|_,_=>none
theorem PL {K:Frag}(r:RE K φ H ρ σ):∀{J:cb}{s:List W},J0 J ρ=some s->∃vs,QL J σ=some vs/\zB K φ H s vs
 |[],s,e=>by cases e;exact⟨[],rfl,.nil⟩|j::J,s,e=>by
  unfold J0 at e;cases E:ρ[j]? with
  |none=>rw[E]at e;cases e|some o=>cases o with
   |none=>rw[E]at e;cases e|some w=>
    rw[E]at e;cases a:J0 J ρ with
    |none=>rw[a]at e;cases e|some b=>
     rw[a]at e;cases e;obtain⟨v,f,d⟩:=r.get j w E;obtain⟨vs,c,h⟩:=PL r a;exact⟨v::vs,by unfold QL;rw[f,c],.cons d h⟩
theorem Oh:∀{J:cb}{s:List V},QL J σ=some s->s.length=J.length/\∀(i:Nat)(v:V),s[i]? =some v->∃j,J[i]? =some j/\σ[j]? =some (some v)
 |[],s,e=>by cases e;exact⟨rfl,λi v h=>by simp at h⟩|j::J,s,e=>by
  unfold QL at e;cases E:σ[j]? with
  |none=>rw[E]at e;cases e|some o=>cases o with
   |none=>rw[E]at e;cases e|some w=>
    rw[E]at e;cases r:QL J σ with
    |none=>rw[r]at e;cases e|some c=>
     rw[r]at e;cases e;obtain⟨f,H⟩:=Oh r;refine⟨by simp[f],λi v h=>?_⟩
     cases i with|zero=>simp at h;subst h;exact⟨j,by simp,E⟩|succ i=>simp at h;obtain⟨d,a,b⟩:=H i v h;exact⟨d,by simpa using a,b⟩
noncomputable def wZ (l:List Lm)(k:Nat):Fn:=λw A=>match l[k]? with|some t=>t.m (w.map some) A|none=>.bad
def Jr (e:Env)(q:Str)(l:List Lm)(k:Nat):ku:=λob c o v=>∃t,l[k]? =some t/\XC q t.params t.body t.scope (wy e t.scope.names []) ob c o v
def WJ (e:Env)(q:Str)(l:List Lm)(a:St)(k:Nat):ku:=λob c o v=>∃t,l[k]? =some t/\XC q t.params t.body t.scope (wy e t.scope.names []) ob c o v/\QL t.idx a=some v
structure Jn (P:Program)(w:World)(K:Frag)(mg:cn)(j:Nat)(q:Str)(t:Lm):Prop where
 sc:VO t.N t.scope
 bind:∀(cl:cu)(pm cdv ctv:Value),bindArgs (kla_fn "<lambda>" q t.params t.body t.scope cl pm cdv ctv) ⟨[],[]⟩=pure []
 body:∀(base:Heap)(cl:cu)(a c:Addr)(A:Around)(outer:cq)(s:Shared)(H:Hp)(E:XK),jb j (A.deeper (envX q t.scope s.heap.objs.size a (.ref c) cl))->gW (Qj P w K mg base t.N q t.scope a (.ref c) cl A outer s H E) s.heap (gD K E)->
  SE (Qj P w K mg base t.N q t.scope a (.ref c) cl A outer s H E) (gD K E) t.body t.m
section
variable {K:Frag}{q:Str}{ls:List Lm}
def iu (l:∀t∈ls,Jn P w K mg j q t)(f:∀t∈ls,∀vs,QL t.idx σ=some vs->Gz base t.N t.scope (wy env t.scope.names []) vs)(k:Nat):Jj P w K mg base (j+1) (WJ env q ls σ k) (wZ ls k):=by
 rintro a ob u c o U vs ⟨t,d,⟨⟨y,C,rfl⟩,b⟩,v⟩
 have M:=mem_of_getElem? d;have L:=l t M;refine⟨⟨_,rfl⟩,_,((iq (pm:=y) (ctv:=C) (u:=u) (uc:=U) L.sc (f t M vs v) b λA i s H E e x=>L.body base _ a c A i s H E e x)).imp λD H Q E h=>?_,λs=>.of_eq (L.bind _ _ _ _)⟩;obtain⟨B,z,g,n,A,p,S,r,h⟩:=h;refine⟨B,z,g,n,A,p,S,r,?_⟩;unfold wZ at h;rw[d]at h;exact h
end
noncomputable abbrev gA:=Nat->ku
open Classical in
noncomputable def QQ (PG:gA)(r:Nat->List W->Hx->R W):Fn:=λu A=>match u with|[.clo k ws P]=>if P=PG k then r k ws A else .bad|_=>.bad
structure Xv (X:Cx)(t:Lm):Prop where
 len:t.idx.length=t.N.length
 nm:∀(i:Nat)(x:Str)(j:Nat),t.N[i]? =some x->t.idx[i]? =some j->X.N[j]? =some x/\t.scope.names.lookup x=some .free
 free:∀y∈t.scope.names,y.2=.free->X.env.kindOf y.1=some .cell∨X.env.kindOf y.1=some .free
section
def GA (I:Inv X n9 σ H s){t:Lm}(L:Xv X t)(h:(wy X.env t.scope.names []).lookup x=some c):X.env.cells.lookup x=some c:=by
 rcases Jy _ _ (PySem.mem_of_lookup h) with z|⟨z,e⟩
 ·cases z
 ·obtain⟨C,a⟩:=I.ok.has x (L.free _ z rfl)
  rw[a]at e ⊢;exact congrArg some e.symm
def AD (I:Inv X n9 σ H s)(d:∀x c v,X.env.cells.lookup x=some c->s.heap.IsCell c v->base.IsCell c v){t:Lm}(L:Xv X t)(g:QL t.idx σ=some vs):Gz base t.N t.scope (wy X.env t.scope.names []) vs:=by
 obtain⟨D,B⟩:=Oh g;refine⟨D.trans L.len,λx y c w q=>I.ok.inj x y c (GA I L w) (GA I L q),λx h=>?_,λx c h=>?_,λi x v w q=>?_⟩
 ·exact Option.isSome_iff_exists.mp (Gj _ _ (.inl (PySem.mem_of_lookup h)))
 ·have e:=GA I L h
  obtain⟨v,z⟩:=I.cell x c e;exact⟨v,d x c v e z⟩
 ·obtain⟨j,p,o⟩:=B i v q
  obtain⟨n,E⟩:=L.nm i x j w p;have A:=L.free _ (PySem.mem_of_lookup E) rfl;obtain⟨m,K,l⟩:=I.loc;obtain⟨u,r,J⟩:=l j x v n o (.inr A);obtain⟨c,b⟩:=Option.isSome_iff_exists.mp (Gj t.scope.names [] (.inl (PySem.mem_of_lookup E)));have f:=GA I L b;rcases J with ⟨z,_⟩|⟨_,C,a,cell⟩
  ·exfalso
   rcases A with k|k<;>(rw[k]at z;cases z)
  ·rw[f]at a
   cases a;exact⟨c,u,E,b,d x c _ f cell,r⟩
def iw (I:Inv X n9 σ H s)(h:∀x,X.fn x=true)(e:X.env.cells.lookup x=some c):c∉qG X.stack:=λb=>by
 rcases cB.mp (I.stkSub c b) with z|z
 ·exact I.cne x c e z
 ·obtain⟨_,o,a,_⟩:=I.ok.funs.mem z
  exact absurd (aE (aG a) (I.ok.cab x c (h x) e)) (aZ _)
noncomputable def Z5 (B h:Heap)(c:cu):Heap:=hideAll h ((List.range h.objs.size).filter λb=>(B.get? b).isNone&&!(c.any λp=>c.lookup p.1==some b))
def Oy {o:Obj}(e:(Z5 base h o8).get? b=some o):h.get? b=some o/\((∃o',base.get? b=some o')∨∃x,o8.lookup x=some b):=by
 have E:=of_hideAll _ e;refine⟨E,?_⟩
 by_cases c:b∈(List.range h.objs.size).filter λb=>(base.get? b).isNone&&!(o8.any λp=>o8.lookup p.1==some b)
 ·unfold Z5 at e
  rw[hideAll_none _ c]at e;cases e
 ·rw[bD]at c
  cases g:base.get? b with
  |some o'=>exact .inl ⟨o',rfl⟩|none=>
   right
   by_cases H:(o8.any λp=>o8.lookup p.1==some b)=true
   ·obtain⟨p,_,a⟩:=List.any_eq_true.mp H
    exact⟨p.1,aL.mp a⟩
   ·exact absurd ⟨(cE.mpr (aG E)),by rw[g];simpa using H⟩ c
def ED (k:∀b o,base.get? b=some o->h.get? b=some o){o:Obj}(e:base.get? b=some o):(Z5 base h o8).get? b=some o:=
 bS _ (k b o e) λH=>by rw[bD,e]at H;simp at H
def E9 {o:Obj}(l:o8.lookup x=some c)(e:h.get? c=some o):(Z5 base h o8).get? c=some o:=
 bS _ e λH=>by
  rw[bD,ak,not_eq_true']at H
  have:=H.2.2
  rw[List.any_eq_false]at this;exact this _ (PySem.mem_of_lookup l) (by simpa using l)
end
inductive spT (K:Frag)(n:Nat)(fs:gA->Fn)(vs:List V)(H:Hp)(Q:VK)(E:XK):Prop
 |mk (len:vs.length=n) (φ:b8) (A:Hx) (ws:List W) (S:zJ K φ A H) (r:zB K φ H ws vs) (q:∀PF,(fs PF ws A).post (PB K φ H Q) (EB K φ H (XE K E)))
def spT.len {K:Frag}{fs:gA->Fn}{Q:VK}{E:XK}(h:spT K n fs vs H Q E):vs.length=n:=by cases h;assumption
section
variable {K:Frag}
def Bt {a:Value}{o:cx}(n:nsIn K mainGlobals x=some (some (.ref f)))(l:K.lookup f=some ⟨a,o,.func fd,oF⟩)(h:tabIn K x=some (c,Pt)):fd.code=.ref c:=by
 unfold tabIn at h;rw[n]at h;dsimp only at h;rw[l]at h;dsimp only at h
 split at h
 ·rename_i C H
  split at h
  ·split at h
   ·cases h;exact H
   ·cases h
  ·cases h
 ·cases h
def iy {q:Str}{M:Stmt}{k:Nat}{ls:List Lm}{m:gA->Ex}(F:kx K x x M f fd)(hn:nsIn K mainGlobals x=some (some (.ref f)))(t:tabIn K x=some (c,Pt))(S:yO N ps (zY M))
  (b:∀(A:Around)(L:cq)(s:Shared)(H:Hp)(E:XK),jb k (A.deeper (envOfC x (zY M) s.heap.objs.size f (.ref c)))->
   J4 (yV yY P w K mg base N x (zY M) f (.ref c) A L s H E).nox yd (jJ M) (m (Jr (envOfC x (zY M) s.heap.objs.size f (.ref c)) q ls))):
  yu P w K mg base yY (k+1) f fd ps (spT K ps.length λu=>qg N.length (m u)):=by
 obtain⟨I,D,kV,doc,pm,an,C,ct,o,rfl,X,e⟩:=F.ex;have v:=Bt hn X t;subst v;refine Tp X e S (λvs H Q E h=>h.len) λA L s H vs Q E j ⟨J,Z,Y,T,n,r,h⟩=>⟨_,yL.nox (b A L s H E j),?_⟩;refine⟨Z,Y,T.map some++List.replicate (N.length-T.length) none,n,RE.start r,?_⟩;have a:=zW.mp (h (Jr (envOfC x (zY M) s.heap.objs.size f (.ref c)) q ls));cases g:m (Jr (envOfC x (zY M) s.heap.objs.size f (.ref c)) q ls) (T.map some++List.replicate (N.length-T.length) none) Y with
 |ok fl B=>
  rw[g]at a;cases fl with|rt w=>exact a|nx U=>exactλd z i l p _=>a d z .non l p rfl|bk U=>exact a.elim|ct U=>exact a.elim
 |exc y B=>rw[g]at a;exact a.elim|bad=>rw[g]at a;exact a.elim
end
noncomputable def G4 (K:Frag)(x:Str)(p:Addr):Bool:=match tabIn K x with|some (c,P)=>P==p&&codeHdIn K c p|none=>false
set_option tactic.hygienic true in
def Gq {K:Frag}(h:G4 K x Pt=true):∃c,tabIn K x=some (c,Pt)/\codeHdIn K c Pt=true:=by
 unfold G4 at h
 split at h
 ·rename_i c P e
  rw[ak,aL]at h;obtain⟨rfl,H⟩:=h;exact⟨c,e,H⟩
 ·cases h
def jC.m {K:Frag}{k:Nat}{f:Fn}(F:jC P w K mg base k x n f):qv P w K mg base k x n λws A=>(f ws A).nox:=by
 obtain⟨i,J,C,F,D,d,g⟩:=F;have up:∀o H Q E,ZD K n (λws A=>(f ws A).nox) o H Q E->XT K n f o H Q (λ_ _ _=>False):=λo H Q E ⟨l,B,A,ws,S,r,h⟩=>⟨l,B,A,ws,S,r,by
  cases a:f ws A with|ok u L=>(try dsimp only at h);rw[a]at h;exact h|exc y L=>(try dsimp only at h);rw[a]at h;exact h.elim|bad=>(try dsimp only at h);rw[a]at h;exact h.elim⟩
 refine⟨i,J,C,⟨λo H Q E h=>F.len o H Q _ (up o H Q E h),λA p s H q U o Q E c I t v h=>?_⟩,D,d,g⟩;refine codeAny_mono (F.run A p s H q U o Q _ c I t v (up o H Q E h)) λr j b=>?_;cases r with
 |error e=>
  obtain⟨_,_,_,_,_,_,_,_,_,_,z⟩:=b;exact z.elim
 |ok fl=>cases fl<;>exact b
theorem jC.mono {K:Frag}{k:Nat}{f:Fn}(F:jC P w K mg base j x n f)(h:j<=k):jC P w K mg base k x n f:=by cases F with|mk d e p F a b c=>exact⟨d,e,p,F.mono h,a,b,c⟩
noncomputable abbrev X0:b0:=[.type "ValueError",.type "Exception",.type "BaseException",.type "object"]
noncomputable abbrev Xx:String := "ValueError.__new__"
section
variable {K:Frag}{cs:cf}{top nm:Str}
noncomputable def clsAt (K:Frag)(x:Str):Addr:=match nsIn K mainGlobals x with|some (some (.ref C))=>C|_=>0
def isAt (K:Frag)(x:Str):Bool:=nsIn K mainGlobals x==some (some (.ref (clsAt K x)))
def kP (c:cf)(x:Str):Str->Option Bool:=λnm=>if c.contains nm then some (nm==x) else none
def T7 (c:cf):Str->Option Bool:=λnm=>if c.contains nm then some true else none
def Jb (K:Frag)(c:cf)(x:Str):Bool:=isAt K x&&kitOne K (.type "NoneType") (.ref (clsAt K x))==some false&&c.all λnm=>kitOne K (.ref (clsAt K nm)) (.ref (clsAt K x))==some (nm==x)
def G5 (K:Frag)(top nm:Str):Bool:=isAt K nm&&K4 K (clsAt K nm)&&Mi.Zx K (clsAt K nm) X0 Xx&&JV K (clsAt K nm) (clsAt K top)&&kitOne K (.ref (clsAt K nm)) (.type "ValueError")==some true
def UB (K:Frag)(top:Str):Bool:=isAt K top&&Mi.Zx K (clsAt K top) X0 Xx&&kitOne K (.type "NoneType") (.type "ValueError")==some false
def Uj (h:isAt K x=true):kj K x (.ref (clsAt K x)):=aL.mp h
def VX {C:Addr}(h:kj K x (.ref C)):C=clsAt K x:=by unfold clsAt;unfold kj at h;rw[h]
structure VL (K:Frag)(top nm:Str):Prop where
 at_:kj K nm (.ref (clsAt K nm))
 kit:K4 K (clsAt K nm)=true
 exc:Mi.Zx K (clsAt K nm) X0 Xx=true
 up:JV K (clsAt K nm) (clsAt K top)=true
 val:kitOne K (.ref (clsAt K nm)) (.type "ValueError")=some true
def iz (h:G5 K top nm=true):VL K top nm:=by unfold G5 at h;simp only[ak,aL]at h;obtain⟨⟨⟨⟨d,c⟩,b⟩,a⟩,H⟩:=h;exact⟨Uj d,c,b,a,H⟩
structure Qh (K:Frag)(cs:cf)(top:Str):Prop where
 exc:∀nm,cs.contains nm=true->VL K top nm
 top_at:kj K top (.ref (clsAt K top))
 top_exc:Mi.Zx K (clsAt K top) X0 Xx=true
 non:kitOne K (.type "NoneType") (.type "ValueError")=some false
def iA (h:cs.all (G5 K top ·)=true)(t:UB K top=true):Qh K cs top:=by unfold UB at t;simp only[ak,aL]at t;obtain⟨⟨b,T⟩,a⟩:=t;exact⟨λnm e=>iz (cF.mp h nm (List.contains_iff_mem.mp e)),Uj b,T,a⟩
def Qh.isx (c:Qh K cs top)(h:Jb K cs x=true):We K (kP cs x) (.ref (clsAt K x)):=by
 unfold Jb at h;simp only[ak,aL]at h;obtain⟨⟨g,f⟩,a⟩:=h;refine⟨f,λnm C b e H=>?_⟩;unfold kP at e
 by_cases d:cs.contains nm=true
 ·rw[aj d]at e
  cases e;cases VX H;exact⟨(c.exc nm d).kit,aL.mp (cF.mp a nm (List.contains_iff_mem.mp d))⟩
 ·rw[av d]at e;cases e
def wz (h:Jb K cs x=true):kj K x (.ref (clsAt K x)):=by unfold Jb at h;simp only[ak,aL]at h;exact Uj h.1.1
def Qh.isv (c:Qh K cs top):We K (T7 cs) (.type "ValueError"):=by
 refine⟨c.non,λnm C b e h=>?_⟩;unfold T7 at e
 by_cases H:cs.contains nm=true
 ·rw[aj H]at e
  cases e;cases VX h;exact⟨(c.exc nm H).kit,(c.exc nm H).val⟩
 ·rw[av H]at e;cases e
def Qh.under (c:Qh K cs top):∀nm,cs.contains nm=true->∀C,kj K nm (.ref C)->∃b n,Mi.Zx K C b n=true/\JV K C (clsAt K top)=true:=λnm H C h=>by cases VX h;exact⟨_,_,(c.exc nm H).exc,(c.exc nm H).up⟩
end
noncomputable def Xj (M:cf)(s:Scope)(t:Lm):Bool:=t.idx.length==t.N.length&&((List.range t.N.length).all λi=>match t.N[i]?,t.idx[i]? with|some x,some j=>M[j]?==some x&&t.scope.names.lookup x==some .free|_,_=>false)&&t.scope.names.all λy=>!(y.2==.free) || (s.names.lookup y.1==some .cell || s.names.lookup y.1==some .free)
def Uh {t:Lm}(h:Xj X.N X.env.scope t=true):Xv X t:=by
 unfold Xj at h;rw[ak,ak]at h;obtain⟨⟨f,d⟩,a⟩:=h;refine⟨aL.mp f,λi x j E b=>?_,λy H e=>?_⟩
 ·have c:=(cD.mp E).1
  have q:=cF.mp d i (cE.mpr c);rw[E,b]at q;rw[ak]at q;exact⟨aL.mp q.1,aL.mp q.2⟩
 ·have q:=cF.mp a y H
  rw[e]at q;rw[ba,ba]at q;rcases q with q|q|q
  ·cases q
  ·exact .inl (aL.mp q)
  ·exact .inr (aL.mp q)
def all_nil {p:α->Prop}:∀t∈([]:List α),p t:=λ_ h=>nomatch h
def all_cons {p:α->Prop}{a:α}{l:List α}(h:p a)(r:∀t∈l,p t):∀t∈a::l,p t:=λt H=>by
 rcases cB.mp H with e|e
 ·rw[e];exact h
 ·exact r t e
def iB {q:Str}{l:List Lm}{k:Nat}{t:Lm}(H:l[k]? =some t):Jr env q l k=XC q t.params t.body t.scope (wy env t.scope.names []):=by
 funext ob c o vs
 refine propext ⟨λ⟨T,e,h⟩=>?_,λh=>⟨t,H,h⟩⟩;rw[H]at e;cases e;exact h
section
variable {k:Nat}{q:Str}{ls:List Lm}{t:Lm}
def iC (d:ls[k]? =some t)(L:Xj X.N X.env.scope t=true)(B:BMain X.mg X.base)(a:X.env.code=.ref c)(C:CodeHd X.base c Pt)(g:X.env.qual ++ "<lambda>"=q)(f:defaultsOf t.params X.env=([],[])):
  SE X xr (.Lambda t.params t.body t.scope og) (Y8 n q Pt k (Jr X.env q ls k)):=by
 intro p s i H Q I h;rw[iB d]at h;exact ir B a C (Pj λy b e=>I.ok.has _ ((Uh L).free y b e)) g f p s i H Q I h
end
noncomputable def QB:Stmt:=.Pass ⟨0,0,0,0⟩
noncomputable def Jh:Expr:=.Constant .none 0 ⟨0,0,0,0⟩
def TF (s:Stmt)(i:Nat):Stmt:=match s with|.For _ _ b _ _=>b.getD i QB|.If _ b _ _=>b.getD i QB|.While _ b _ _=>b.getD i QB|_=>QB
def Ln (s:Stmt):Expr:=match s with|.Assign _ v _=>v|.Expr v _=>v|.Return (some v) _=>v|_=>Jh
def Wx (e:Expr)(i:Nat):Expr:=match e with|.Call _ a _ _=>a.getD i Jh|.List E _=>E.getD i Jh|.Tuple E _ _=>E.getD i Jh|.BinOp a _ b _=>if i=0 then a else b|_=>Jh
noncomputable def iD (e:Expr):Arguments:=match e with|.Lambda a _ _ _=>a|_=>{ posonlyargs:=[],args:=[],vararg:=none,kwonlyargs:=[],kw_defaults:=[],kwarg:=none,defaults:=[] }
def iE (e:Expr):Expr:=match e with|.Lambda _ b _ _=>b|_=>Jh
noncomputable def iF (e:Expr):Scope:=match e with|.Lambda _ _ s _=>s|_=>{ kind:=.function,names:=[],isGenerator:=false,isCoroutine:=false }
def Wu (e:Expr)(N:cf)(i:cb)(m:Ev):Lm:=⟨N,i,iD e,iE e,iF e,m⟩
def iG {K:Frag}{S:Stmt}{k:Nat}(F:kx K x x S f fd)(e:mg x=some (.ref f))
  (b:∀(kV d p:Value)(n:cx)(c ct:Value)(u:b0),u.length=ps.length->bindArgs (fnOf x x (gu S) (jJ S) (zY S) .none kV d p n c ct) ⟨u,[]⟩=pure (ps.zip u)):qv P w K mg base k x ps.length (λ_ _=>.bad):=
 ⟨f,fd,ps,⟨λv H Q E h=>h.1,λA o s H a u v Q E _ _ _ _ h=>by obtain⟨_,_,_,_,_,_,z⟩:=h;exact z.elim⟩,e,F.kp,F.binds b⟩
def AW {K:Frag}(t a b:Ty):kitAny K (.type t.nm) [.type a.nm,.type b.nm]=some (km t a || km t b):=by
 unfold kitAny;rw[GG];cases km t a with
 |true=>rfl|false=>
  unfold kitAny;rw[GG];cases km t b<;>rfl
section
variable {a b:Expr}{m ma mb:Ev}
def J9.kitx {x:V}{t:Ty}(I:Inv X n9 σ H s)(r:RelV x u)(h:J9 X.K H x t):∃b:Heap->Prop,PySem.W.KitX X.K u (.type t.nm) b/\b s.heap/\u≠.builtin "__main__.__loader__#opaque":=by
 rcases h with h|⟨a,xs,rfl,h,rfl⟩
 ·generalize d:Value.type t.nm=T at h
  cases h with
  |non=>cases (show u=Value.none from r);exact⟨_,kitx_none,True.intro,λz=>nomatch z⟩
  |bl y=>cases (show u=Value.bool y from r);exact⟨_,kitx_bool,True.intro,λz=>nomatch z⟩
  |int i=>obtain⟨t,q⟩:=(show ∃t,u=Value.int i t from r);cases q;exact⟨_,kitx_int,True.intro,λz=>nomatch z⟩
  |str y=>obtain⟨t,q⟩:=(show ∃t,u=Value.str y t from r);cases q;exact⟨_,kitx_str,True.intro,λz=>nomatch z⟩
  |@lst a xs ea=>
   cases (show u=Value.ref a from r)
   obtain⟨_,_,n,_,e⟩:=(show jk X.prog X.w H s.heap a (.lst xs) from I.hok a _ ea)
   exact⟨_,kitx_list,⟨_,e,rfl⟩,λz=>nomatch z⟩
  |@frz a ob xs ea=>
   cases (show u=Value.ref a from r)
   obtain⟨_,_,_,n,_,e⟩:=(show jk X.prog X.w H s.heap a (.frz ob (.lst xs)) from I.hok a _ ea)
   exact⟨_,kitx_list,⟨_,e,rfl⟩,λz=>nomatch z⟩
  |@tup a xs ea=>
   cases (show u=Value.ref a from r)
   obtain⟨_,_,_,p⟩:=(show jk X.prog X.w H s.heap a (.tup xs) from I.hok a _ ea)
   obtain⟨o,e,f,_⟩:=p;exact⟨_,kitx_tuple,⟨o,e,f.1⟩,λz=>nomatch z⟩
  |@dK a oo ea=>
   cases (show u=Value.ref a from r)
   obtain⟨_,_,_,_,o,_,_,e,f,_⟩:=(show jk X.prog X.w H s.heap a (.dK oo) from I.hok a _ ea)
   exact⟨_,kitx_dict,⟨o,e,f.1⟩,λz=>nomatch z⟩
 ·cases (show u=Value.ref a from r)
  obtain⟨c,_,⟨o,e,f,_⟩,_⟩:=I.tuple h;exact⟨_,kitx_tuple,⟨o,e,f⟩,λz=>nomatch z⟩
def iH (K:Frag)(a b:Ty):List V->Hp->VK->Prop:=λX H Q=>∃x t l,X=[x,.ref l]/\qy K H l [.ty (Ty.nm a),.ty (Ty.nm b)]/\J9 K H x t/\Q (.bl (km t a || km t b)) H
def BG {a b:Ty}:jU X (.builtin "isinstance") (iH X.K a b):=by
 intro P s J H L M Q I r h;obtain⟨x,t,l,rfl,w,p,q⟩:=h;obtain⟨u,e,rfl,ru,c⟩:=vals2 r;cases (show e=Value.ref l from c)
 obtain⟨n,v,⟨o,E,D,k,y⟩,_⟩:=I.tuple w;obtain⟨d,U,rfl,g,f⟩:=vals2 v;cases (show d=Value.type a.nm from g)
 cases (show U=Value.type b.nm from f)
 obtain⟨C,Z,z,N⟩:=p.kitx I ru;obtain⟨j,B,i,A⟩:=o;cases (show j=_ from D)
 cases (show i=_ from y)
 exact PySem.W.kia_tup Z I.kIn z E (AW t a b) N λT=>⟨.bl (km t a || km t b),H,I.tok T,rfl,q⟩
def M8 (t T:Ty)(m:Ev):Ev:=λc A=>(m c A).bind λw b=>match qZ w b with
 |some a=>.ok (.bl (km a t || km a T)) b
 |none=>.bad
noncomputable def T4 (m:Ev)(t:Tg):Ex:=λb A=>(m b A).bind λw c=>match t w b with|some a=>.ok (.nx a) c|none=>.bad
noncomputable def XB (i j:Nat)(c M:Ev):Ex:=λb A=>(c b A).bind λx d=>(M b d).bind λy a=>.ok (.nx ((b.set i (some x)).set j (some y))) a
end
section
noncomputable abbrev gU (l:Bool):Obj:={ cls:=.type "set",dict:=none,data:=.set #[] 0 (.fresh 0 0 l) }
end
def intsAre_of:∀{N:bZ}{i:b0},Vals (N.map V.int) i->IntsAre i N:=by
 intro N
 induction N with
 |nil=>intro i h;cases h;exact .nil|cons n N I=>
  intro i h;cases h with|cons r t=>obtain⟨T,rfl⟩:=r;exact .cons n T (I t)
def Tw (s:Stmt):Expr:=match s with|.If t _ _ _=>t|_=>Jh
def Iy:fillsNumberSlot (.type "tuple") "mul"=pure false:=
 PySem.fillsNumberSlot_seq F.slot_tuple_mul.lookup (by decide +kernel) F.slot_tuple_rmul.lookup (by decide +kernel)
def FH:seqRepeat? (.type "tuple")=pure (some (.builtin "tuple.__mul__")):=by rfl
def FF (a:Int)(t:Tok)(l:Addr)(o:cx)(i:Array Value)(n:Nat)(sl:Array (cc)):
  Meets (Builtin.«int.__rmul__» ⟨[.int a t,.ref l],[]⟩) (λ_ R s=>s.heap.get? l=some ⟨.type "tuple",o,.seq i n,sl⟩/\R (.ok (.ret Value.notImplemented)) s):=
 .of_wp λp w A R s h=>by
  obtain⟨H,g,d,T,c⟩:=s;obtain⟨b,h⟩:=h
  wp_walk
  exact⟨_,rfl,h⟩
def Cp (k:Int)(t:Tok)(l:Addr)(o:cx)(I:Array Value)(n:Nat)(sl:Array (cc))(v:2<=k)(b:k<1000)(u:0<I.size)(z:I.size<1000):
  Meets (Builtin.«tuple.__mul__» ⟨[.ref l,.int k t],[]⟩) (λ_ R s=>s.heap.get? l=some ⟨.type "tuple",o,.seq I n,sl⟩/\R (.ok (.ret (.ref s.heap.objs.size))) { s with heap:=s.heap.push { cls:=.type "tuple",data:=.seq ((List.replicate k.toNat I).foldl (·++·) #[]) } }):=
 .of_wp λP w A R s h=>by
  obtain⟨p,g,d,T,q⟩:=s;obtain⟨a,h⟩:=h;have i:I.isEmpty=false:=by
   cases he:I.isEmpty with|false=>rfl|true=>rw[Array.isEmpty_iff_size_eq_zero]at he;lia
  have f:(k==1)=false:=by rw[beq_eq_false_iff_ne];lia
  have E:(decide (k < -2 ^ 63) || decide (k ≥ 2 ^ 63))=false:=by rw[Bool.or_eq_false_iff,decide_eq_false_iff_not,decide_eq_false_iff_not];lia
  have c:decide (k<=0)=false:=by rw[decide_eq_false_iff_not];lia
  have r:(I.size:Int) * k<=1000 * 1000:=Int.mul_le_mul (by lia) (by lia) (by lia) (by lia)
  have e:Builtin.Tuple.tupleTooMany ((I.size:Int) * k)=false:=by
   unfold Builtin.Tuple.tupleTooMany
   have:sizeLine=16777216:=sizeLine_eq
   rw[decide_eq_false_iff_not];lia
  wp_walk
  rw[E]
  wp_walk
  rw[av (by lia),e,av (by decide)]
  have H:(List.foldl (λX x=>X++x) #[] (List.replicate k.toNat I)).size<=sizeLine:=by
   have j:=foldl_rep I.toList k.toNat [];rw[nil_append]at j;rw[j,aD,len_rep]
   have:sizeLine=16777216:=sizeLine_eq
   have:k.toNat * I.toList.length<=1000 * 1000:=mul_le_mul (by lia) (by rw[aT];lia)
   lia
  refine cz (wpAny_newObj_type ?_ H);exact cA ⟨_,rfl,h⟩
section
variable {K:Frag}{b:Expr}
def MD (K:Frag):R2:=λx y H Q=>∃l k X,x=.ref l/\y=.int k/\qy K H l X/\2<=k/\k<1000/\0<X.length/\X.length<1000/\
 ∀p,H p=none->Q (.ref p) (upd H p (.tup (List.replicate k.toNat X).flatten))
def iI:qM X (binaryOp .Mult) (MD X.K):=by
 intro P s L H x y v u Q I c a h;obtain⟨l,k,A,rfl,rfl,e,E,C,j,g,q⟩:=h;cases c;obtain⟨t,rfl⟩:=a;obtain⟨i,r,p,_⟩:=I.tuple e;obtain⟨⟨J,D,data,sl⟩,o,d,n,B⟩:=id p;subst d B;have w:=by
  have:=foldl_rep i k.toNat []
  exact this
 have z:=r.length;refine wpAny_binaryOp_repeat_ref (by decide) ⟨_,o,rfl⟩ (λS=>typeIs_int S k t) Iy F.fills_int_mul F.slot_int_rmul FH F.slot_int_index.lookup
  (call_meets F.slot_int_rmul (typeIs_int s k t) F.entry_int_rmul (F.args_int_rmul_2 _ _) (FF k t l D i.toArray n sl)
   ⟨o,rfl,⟨_,o,rfl⟩,call_meets F.slot_tuple_mul ⟨_,o,rfl⟩ F.entry_tuple_mul (F.args_tuple_mul_2 _ _) (Cp k t l D i.toArray n sl E C (by rw[aD];lia) (by rw[aD];lia)) ⟨o,?_⟩⟩)
 rw[w];refine⟨.ref s.heap.objs.size,_,I.laid (λb ob q=>af _ q) (ax _) ?_,rfl,q _ (I.hok.fresh (ax _))⟩;refine⟨?_,_,r.rep k.toNat,ZY.new _ _⟩;rw[len_rep];have f:=sizeLine_eq
 have:k.toNat * A.length<=1000 * 1000:=mul_le_mul (by lia) (by lia)
 lia
noncomputable def Ji:W->W->Hx->R W:=λx y A=>match x,y with|.tup X,.int k=>if decide (2<=k)&&(decide (k<1000)&&(decide (0<X.length)&&decide (X.length<1000))) then .ok (.tup (List.replicate k.toNat X).flatten) A else .bad|_,_=>.bad
def AS:∀x y A,qE (Ji x y A):=λx y A=>by
 unfold Ji
 split
 ·exact ZZ jL qP
 ·exact qP
def BW:yi K (MD K) Ji:=λg A H x y u v Q S b q p=>by
 cases u with
 |tup X=>cases v with
  |int j=>
   obtain⟨f,a,rfl,t,r⟩:=b;obtain rfl:=q;unfold Ji at p;dsimp only at p
   by_cases h:(decide (2<=j)&&(decide (j<1000)&&(decide (0<X.length)&&decide (X.length<1000))))=true
   ·rw[aj h]at p
    simp only[ak,ag]at h;refine⟨f,j,a,rfl,rfl,t,h.1,h.2.1,by rw[<- r.length];exact h.2.2.1,by rw[<- r.length];exact h.2.2.2,λl c=>?_⟩
    obtain⟨e,d,C⟩:=QA S c (r.rep j.toNat);exact p _ _ _ e d C
   ·rw[av h]at p;exact p.elim
  |_=>exact p.elim
 |_=>cases v<;>exact p.elim
end
section
open PySem.SeqAt
open PySem.AutoSeq1 (wpAny_loadPart')
open PySem.MeetsSeq PySem.MeetsSeq2 PySem.MeetsSeq3
end
section
variable {prog:Program}{A:Around}{S:Addr}{wr:b8}{P:Nat->Value->Prop}
structure M0 (prog:Program)(w:World)(A:Around)(S:Addr)(wr:b8)(P:Nat->Value->Prop)(bt:Nat->Nat->Bool)(HI:Heap->Prop):Prop where
 keep:∀h h',HI h->(∀b o,b∉wr->b≠S->h.get? b=some o->h'.get? b=some o)->HI h'
 less:∀i j vi vj (s:Shared) (Q:cg) (E:cg),HI s.heap->P i vi->P j vj->Q (.bool (bt i j)) s->wpAny (model prog w) A.in1 (richCompare .Lt vi vj) Q E s
end
section
variable {K:Frag}
def C5 {w:W}{ds:List PyData}(h:qk A 8 w=some (.list ds)):PyData.canLayAll0 ds=true/\PyData.depthAll ds<=8:=by obtain⟨H,a⟩:=Gr 8 w _ h;simp only[PyData.canLay0,PyData.depth]at H a;exact⟨H,by lia⟩
noncomputable def Z3 (p:PyData->Bool):List PyData->Option Nat
 |[]=>none|d::ds=>if p d then some 0 else(Z3 p ds).map (· + 1)
theorem Ow {p:PyData->Bool}:∀{ds:List PyData}{j:Nat},Z3 p ds=some j->∃h:j<ds.length,p ds[j]=true/\∀m (b:m<ds.length),m<j->p ds[m]=false
 |d::ds,j,e=>by
  unfold Z3 at e
  by_cases a:p d=true
  ·rw[aj a]at e
   cases e;exact⟨Nat.zero_lt_succ _,a,λm _ z=>absurd z (bO _)⟩
  ·rw[av a]at e
   cases E:Z3 p ds with
   |none=>rw[E]at e;cases e|some J=>
    rw[E]at e;cases e;obtain⟨f,c,H⟩:=Ow E;refine⟨Nat.succ_lt_succ f,c,λm b z=>?_⟩;cases m with|zero=>exact Bool.eq_false_iff.mpr a|succ m=>exact H m (bp b) (bp z)
def iJ (K:Frag):V->List V->Hp->VK->Prop:=λx s H Q=>∃a A u v y d ds j,s=[y]/\zJ K a A H/\RV K a H u x/\RV K a H v y/\qk A 8 u=some (.list ds)/\qk A 8 v=some d/\Z3 (λz=>PyData.eqv z d) ds=some j/\j<1000000/\Q (.int j) H
set_option tactic.hygienic true in
def D3 (D:X.A.units+64<cLine):Sh X "list.index" (iJ X.K):=by
 intro P s σ H x vs v us Q I r f h;obtain⟨φ,A,c,w,y,d,ds,j,rfl,S,i,g,a,E,t,J,q⟩:=h;obtain⟨u,rfl,ru⟩:=f.one;obtain⟨as,h1⟩:=YE I S 8 c x v _ i r a;obtain⟨bs,Z⟩:=YE I S 8 w y u d g ru E;obtain⟨g1,g2⟩:=Gr 8 w d E;obtain⟨U,L⟩:=C5 a;obtain⟨f1,f2,p⟩:=Ow t;cases h1 with
 |list Y a2 C b=>
  rename_i l o M n B
  obtain⟨cls,dd,data,sl⟩:=o;subst a2 C;have N:=SeqAt.readsAll_map _ _ _ U b;have T:M.size=ds.length:=by rw[<- N];simp
  have at_:∀m (h:m<M.size) (h':m<ds.length),SeqAt.readOf s.heap M[m]=ds[m]:=λm h h'=>by
   have e:(M.toList.map (SeqAt.readOf s.heap))[m]? =ds[m]?:=by rw[N]
   rw[ar,aa h',bE,Array.getElem?_eq_getElem h]at e;exact aB e
  refine call_meets F.slot_list_index ⟨_,Y,rfl⟩ F.entry_list_index (F.args_list_index_2 _ _)
   (SeqAt.list_indexAt l M n dd sl u (λz=>PyData.eqv (SeqAt.readOf s.heap z) d) j (by lia) (by lia) (by rw[at_ j (by lia) f1];exact f2) (λm h z=>by rw[at_ m h (by lia)];exact p m (by lia) z)) ⟨Y,SeqAt.items_eqAt b Z U g1 (by lia),?_⟩
  exact⟨.int j,H,I.tok _,⟨_,rfl⟩,q⟩
def JI:W->W->Hx->R W:=λx y A=>match qk A 8 x,qk A 8 y with
 |some (.list ds),some d=>(match Z3 (λz=>PyData.eqv z d) ds with|some j=>if j<1000000 then .ok (.int j) A else .bad|none=>.bad)
 |_,_=>.bad
def CF:∀x y A,qE (JI x y A):=λx y A=>by
 unfold JI
 split
 ·split
  ·exact ZZ jL qP
  ·exact qP
 ·exact qP
end
open PySem
noncomputable def qd (n:Nat):cb:=(List.range 8).filter λi=>n.testBit i
def jg (l:Bool)(n:Nat):SetTable:=if (qd n).length<5 then⟨7,(qd n).toArray,#[],0,l,0,true⟩ else⟨31,(qd n).toArray,#[],0,l,1,true⟩
noncomputable def jw (n v:Nat):Nat:=n ||| (1 <<< v)
def Zy (n v:Nat):Nat:=((qd n).filter λi=>decide (i<v)).length
def wb (l:Bool)(n v:Nat):SetTable:={ jg l n with place:=(qd (jw n v)).toArray }
def yT (l:Bool)(n v:Nat):Bool:=n.testBit v || (((jg l n).freeSlot (v:Int)==some (v,false))&&((jg l n).put v==(wb l n v,Zy n v))&&(qd (jw n v)==(qd n).take (Zy n v)++v::(qd n).drop (Zy n v))&&
 (wb l n v).fits (qd (jw n v)).length&&((wb l n v).tooFull==((qd (jw n v)).length==5))&&
 (if (qd (jw n v)).length==5 then(wb l n v).relaid ((qd (jw n v)).map λ(i:Nat)=>(i:Int)).toArray 20==some (jg l (jw n v),#[0,1,2,3,4]) else jg l (jw n v)==wb l n v)&&
 (jg l (jw n v)).fits (qd (jw n v)).length&&decide (jw n v<256))
def add_0:((List.range' 0 32).all λn=>(List.range 8).all λv=>yT true n v&&yT false n v)=true:=by decide +kernel
def iK:((List.range' 32 32).all λn=>(List.range 8).all λv=>yT true n v&&yT false n v)=true:=by decide +kernel
def iM:((List.range' 64 32).all λn=>(List.range 8).all λv=>yT true n v&&yT false n v)=true:=by decide +kernel
def iN:((List.range' 96 32).all λn=>(List.range 8).all λv=>yT true n v&&yT false n v)=true:=by decide +kernel
def iP:((List.range' 128 32).all λn=>(List.range 8).all λv=>yT true n v&&yT false n v)=true:=by decide +kernel
def iQ:((List.range' 160 32).all λn=>(List.range 8).all λv=>yT true n v&&yT false n v)=true:=by decide +kernel
def iR:((List.range' 192 32).all λn=>(List.range 8).all λv=>yT true n v&&yT false n v)=true:=by decide +kernel
def iS:((List.range' 224 32).all λn=>(List.range 8).all λv=>yT true n v&&yT false n v)=true:=by decide +kernel
def iT:((List.range 256).all λn=>(List.range 8).all λv=>yT true n v&&yT false n v)=true:=by
 rw[show List.range 256=List.range' 0 32++(List.range' 32 32++(List.range' 64 32++(List.range' 96 32++(List.range' 128 32++(List.range' 160 32++(List.range' 192 32++List.range' 224 32)))))) by decide +kernel,bU,bU,bU,bU,bU,bU,bU,add_0,iK,iM,iN,iP,iQ,iR,iS]
 rfl
open PySem PySem.Spec PyProof.Rows
inductive jn:List (Int×Value)->List Nat->Prop
 |nil:jn [] []
 |cons {es:List (Int×Value)} {vs:cb} (v:Nat) (tk:Tok) (h:jn es vs):jn (((v:Int),.int (v:Int) tk)::es) (v::vs)
theorem jn.length {s:cb}(h:jn es s):es.length=s.length:=by
 induction h with|nil=>rfl|cons v t h i=>simp[i]
def jn.map1 {s:cb}(h:jn es s):es.map (·.1)=s.map λ(i:Nat)=>(i:Int):=by
 induction h with|nil=>rfl|cons v t h I=>simp[I]
theorem jn.take {s:cb}(h:jn es s):∀k,jn (es.take k) (s.take k):=by
 induction h with
 |nil=>intro k;simp;exact .nil|cons v t h i=>
  intro k;cases k with|zero=>exact .nil|succ k=>exact .cons v t (i k)
theorem jn.drop {s:cb}(h:jn es s):∀k,jn (es.drop k) (s.drop k):=by
 induction h with
 |nil=>intro k;simp;exact .nil|cons v t h i=>
  intro k;cases k with|zero=>exact .cons v t h|succ k=>exact i k
def jn.app {e:List (Int×Value)}{s a:cb}(h:jn es s)(H:jn e a):jn (es++e) (s++a):=by
 induction h with|nil=>exact H|cons v t h i=>exact .cons v t i
def Pq:∀v,v<8->hashInt ((v:Nat):Int)=(v:Int):=by decide
section
variable {prog:Program}
def jn.elems {s:cb}(h:jn es s)(H:∀v∈s,v<8):ElemsOf (intKind prog w) es:=by
 induction h with
 |nil=>intro e b;cases b|cons v t h i=>
  intro e b;rcases cB.mp b with rfl|b
  ·exact⟨⟨(v:Int),intKind_is _ _ _ _,(Pq v (H v (au ..))).symm⟩,rfl⟩
  ·exact i (λu a=>H u (ao _ a)) e b
def jn.find {s:cb}(h:jn es s)(v:Nat):(es.findIdx? λe=>(intKind prog w).is (v:Int) e.2)=s.findIdx? λu=>decide (u=v):=by
 induction h with
 |nil=>rfl|cons u t h i=>
  rw[List.findIdx?_cons,List.findIdx?_cons,i]
  have:(intKind prog w).is (v:Int) (Value.int (u:Int) t)=decide (u=v):=by show Value.isInt (v:Int) (Value.int (u:Int) t)=_;unfold Value.isInt;rw[Bool.eq_iff_iff];simp;lia
  rw[this]
end
def UT {v:Nat}:v∈qd n↔v<8/\n.testBit v=true:=by unfold qd;rw[bD,mem_range]
def yX (h:Heap)(a:Addr)(l:Bool)(n:Nat):Prop:=∃o e E,h.get? a=some o/\o.ExactSet/\o.data=.set e E (jg l n)/\jn e.toList (qd n)/\n<256
def yX.keep (x:yX h a oy n)(k:∀o,h.get? a=some o->h'.get? a=some o):yX h' a oy n:=
 let ⟨o,e,E,H,r⟩:=x;⟨o,e,E,k o H,r⟩
def BB {v:Nat}(a:n<256)(H:v<8)(l:Bool):yT l n v=true:=by
 have h:=cF.mp (cF.mp iT n (cE.mpr a)) v (cE.mpr H);rw[ak]at h;cases l
 ·exact h.2
 ·exact h.1
def Ak:((List.range 256).all λn=>(jg true n).fits (qd n).length&&(jg false n).fits (qd n).length)=true:=by decide +kernel
def VD (l:Bool)(n:Nat):(jg l n).plain=true:=by unfold jg;split<;>rfl
def iU (l:Bool)(n:Nat):(jg l n).led=l:=by unfold jg;split<;>rfl
def Od (l:Bool)(n:Nat):(jg l n).place=(qd n).toArray:=by unfold jg;split<;>rfl
def fits_of (H:n<256)(l:Bool):(jg l n).fits (qd n).length=true:=by
 have h:=cF.mp Ak n (cE.mpr H);rw[ak]at h;cases l
 ·exact h.2
 ·exact h.1
def YS (n:Nat):(qd n).length<=8:=by unfold qd;exact bo (bC _ _) (by simp)
structure XF (oy:Bool)(n v:Nat):Prop where
 free:(jg oy n).freeSlot (v:Int)=some (v,false)
 put:(jg oy n).put v=(wb oy n v,Zy n v)
 vs:qd (jw n v)=(qd n).take (Zy n v)++v::(qd n).drop (Zy n v)
 fits:(wb oy n v).fits (qd (jw n v)).length=true
 full:(wb oy n v).tooFull=((qd (jw n v)).length==5)
 TU:(qd (jw n v)).length=5->(wb oy n v).relaid ((qd (jw n v)).map λ(i:Nat)=>(i:Int)).toArray 20=some (jg oy (jw n v),#[0,1,2,3,4])
 less:(qd (jw n v)).length≠5->jg oy (jw n v)=wb oy n v
 lt:jw n v<256
def DD {v:Nat}(j:n<256)(a:v<8)(l:Bool)(b:n.testBit v=false):XF l n v:=by
 have h:=BB j a l;unfold yT at h;rw[b,Bool.false_or]at h;simp only[ak,aL,ag]at h;obtain⟨⟨⟨⟨⟨⟨⟨p,o⟩,g⟩,f⟩,d⟩,H⟩,i⟩,c⟩:=h;refine⟨p,o,g,f,d,λe=>?_,λe=>?_,c⟩
 ·rw[aj e]at H;exact of_decide_eq_true (by simpa using H)
 ·rw[av e]at H;simpa using H
def yJ (n v:Nat):Nat:=if n.testBit v then n else jw n v
section
variable {prog:Program}{A:Around}
def BF {e:Array (Int×Value)}{v:Nat}{x:Value}(f:XF oy n v)(H:jn e.toList (qd n)):layNew (jg oy n) e (v:Int) x=(SetTable.insertAt e (Zy n v) ((v:Int),x),wb oy n v,false,false):=by
 have h:(SetTable.insertAt e (Zy n v) ((v:Int),x)).size=(qd (jw n v)).length:=by rw[<- aT,SetTable.toList_insertAt,f.vs,ai,ai,a7,a7,bc,bc,bQ,bQ,H.length]
 unfold layNew;rw[f.free];dsimp only;rw[f.put];rw[h];unfold SetTable.orStandIn;rw[aj f.fits,f.fits]
 rfl
def AZ {E:Array (Int×Value)}{v:Nat}(f:XF oy n v)(g:(qd (jw n v)).length=5)(p:jn E.toList (qd (jw n v))):relayAll (wb oy n v) E 20=(E,jg oy (jw n v),false):=by
 have r:E.map (·.1)=((qd (jw n v)).map λ(i:Nat)=>(i:Int)).toArray:=by
  apply Array.toList_inj.mp
  rw[Array.toList_map,p.map1]
 have h:E.size=5:=by rw[<- aT,p.length,g]
 have H:(#[0,1,2,3,4]:Array Nat).filterMap (E[·]?)=E:=by
  apply Array.toList_inj.mp
  have q:E.toList.length=5:=by rw[aT];exact h
  have j:∀i,E[i]? =E.toList[i]?:=λi=>by rw[bE]
  simp only[j];generalize E.toList=l at q;obtain⟨a,b,c,d,e,rfl⟩:∃a b c d e,l=[a,b,c,d,e]:=by
   match l,q with|[a,b,c,d,e],_=>exact⟨a,b,c,d,e,rfl⟩
  rfl
 unfold relayAll;rw[r,f.TU g];dsimp only;rw[H];have o:coversAll #[0,1,2,3,4] E.size=true:=by rw[h];decide +kernel
 have s:(jg oy (jw n v)).fits E.size=true:=by rw[h,<- g];exact fits_of f.lt oy
 rw[o,s]
 rfl
def jn.insert {e:Array (Int×Value)}{v:Nat}{tk:Tok}(f:XF oy n v)(h:jn e.toList (qd n)):jn (SetTable.insertAt e (Zy n v) ((v:Int),.int (v:Int) tk)).toList (qd (jw n v)):=by rw[SetTable.toList_insertAt,f.vs];exact(h.take _).app (.cons v tk (h.drop _))
def Pm {o:Obj}{E es':Array (Int×Value)}{e:Nat}{t:SetTable}{t':SetTable}(H:h.get? a=some o)(d:o.data=.set E e t):(h.update a (Obj.putSet es' t')).get? a=some { o with data:=.set es' (e+1) t' }:=by
 have:=a4 (Obj.putSet es' t') H (by rw[putSet_of es' t' d];rfl)
 rw[putSet_of es' t' d]at this;exact this
def EX {v:Nat}{Y:Tok}{Q:Bool->Shared->Prop}(S:yX s.heap a oy n)(x:v<8)
  (h:∀B b,Heap.SameBut a s.heap B->yX B a oy (yJ n v)->Q b { s with heap:=B }):
  wpAny (model prog w) A (setAddHashed a (.int (v:Int) Y) ((intKind prog w).hash (v:Int))) Q E s:=by
 obtain⟨o,l,C,q,U,Z,X,hn⟩:=S;have T:l.size=(qd n).length:=by rw[<- aT,X.length]
 have hf:(jg oy n).fits l.size=true:=by rw[T];exact fits_of hn oy
 have r:ElemsOf (intKind prog w) l.toList:=X.elems λu I=>(UT.mp I).1;have i:l.size<scanBound:=by rw[T];have:=YS n;unfold scanBound;lia
 refine wpAny_holding (cz (wpAny_setState_of q Z hf ?_));dsimp only;rw[byScan_of rfl i r];refine cz ?_;refine cz (wpAny_rule ?_);refine cz (wpAny_setScan_of (intKind_is _ _ _ _) q Z hf r ?_);rw[X.find];cases D:(qd n).findIdx? λu=>decide (u=v) with
 |some j=>
  have i:n.testBit v=true:=by
   obtain⟨M,z,_⟩:=List.findIdx?_eq_some_iff_getElem.mp D
   have:=of_decide_eq_true z
   exact(UT.mp (this ▸ aJ M)).2
  refine cA (cA ?_);refine h s.heap false (Heap.SameBut.refl a s.heap) ?_;unfold yJ;rw[aj i];exact⟨o,l,C,q,U,Z,X,hn⟩
 |none=>
  have i:n.testBit v=false:=by
   cases L:n.testBit v with
   |false=>rfl|true=>
    have:=List.findIdx?_eq_none_iff.mp D v (UT.mpr ⟨x,L⟩)
    simp at this
  have f:=DD hn x oy i;have N:(intKind prog w).hash (v:Int)=(v:Int):=Pq v x;rw[N];rw[BF f X];have H:=X.insert (tk:=Y) f;have g:(SetTable.insertAt l (Zy n v) ((v:Int),Value.int (v:Int) Y)).size=(qd (jw n v)).length:=by rw[<- aT,H.length]
  generalize SetTable.insertAt l (Zy n v) ((v:Int),Value.int (v:Int) Y)=e at H g;refine cz (cA ?_);have K:(wb oy n v).plain=true:=by unfold wb;exact VD oy n
  rw[K];refine cz ?_;rw[hashByValue_scannable 8 rfl];refine cA ?_;have y:plainKind (.int (v:Int) Y)=true:=rfl;rw[y];simp only[↓reduceIte];have p:e.size<=sizeLine:=by rw[g,sizeLine_eq];have:=YS (jw n v);lia
  refine cz (wpAny_storeSet_of q Z ?_ p);have d:=Pm (es':=e) (t':=wb oy n v) q Z;have c:=Heap.SameBut.update s.heap a (Obj.putSet e (wb oy n v));rw[f.full]
  by_cases t:(qd (jw n v)).length=5
  ·have P:SetTable.grown e.size=20:=by rw[g,t];rfl
   rw[P,AZ f t H,t];refine cz (cA ?_);refine cz (wpAny_storeSet_of d rfl ?_ p);refine cA ?_;refine cA ?_;refine h _ true (c.trans (Heap.SameBut.update _ a _)) ?_;unfold yJ;rw[i];exact⟨_,e,C+1+1,(Pm d rfl),U,rfl,H,f.lt⟩
  ·have J:((qd (jw n v)).length==5)=false:=by simpa using t
   rw[J];refine cA ?_;refine cA ?_;refine h _ true c ?_;unfold yJ;rw[i,av aP,];refine⟨_,e,C+1,d,U,?_,H,f.lt⟩;rw[f.less t]
end
noncomputable abbrev j5 (w:World):Bool:=!w.params.followText "set-order"
def QK (val:Nat->Nat)(i:Nat):Nat:=((List.range i).map val).foldl yJ 0
def DS (val:Nat->Nat)(i:Nat):QK val (i+1)=yJ (QK val i) (val i):=by
 unfold QK;rw[bw,aS,List.foldl_append]
 rfl
section
variable {prog:Program}{A:Around}
def HB (a:Value){Q1:cg}(h:Q1 (.ref s.heap.objs.size) { s with heap:=s.heap.push (gU (j5 w)) }):
  codeAny (model prog w) A (.call (.builtin "set.__new__") ⟨[.type "set",a],[]⟩) (wants Q1 E) s:=by
 refine codeAny_of_tree ?_;show wpAny _ A.in1 (do checkBuiltinCall "set.__new__" ⟨[.type "set",a],[]⟩;again (.builtin "set.__new__" ⟨[.type "set",a],[]⟩)) _ _ s
 refine cz (wpAny_of_eq (F.newCall_set_1 a) (cA ⟨plainId_quiet F.plain_set_new _,codeAny_builtin F.entry_set_new ?_⟩));rw[Around.under_plainId F.plain_set_new _];unfold Builtin.«set.__new__» Builtin.Frozenset.newClass;have H:=sub_set_self;obtain⟨p,g,d,t,o⟩:=s;dsimp only
 wp_walk
 refine wpAny_askSetting (cA ?_);dsimp only;simp only[newObj];refine cz (wpAny_alloc (cA ?_));exact cA h
end
section
variable {prog:Program}{A:Around}{R:Result->Shared->Prop}{I:Addr}{wr:b8}{G:Array GenState->Array GenState->Prop}{P:Nat->Value->Prop}{St:Nat->Shared->Prop}
def DP (W:WalksS prog w A.in1 I fp wr G n P St)(S:Addr)(r:S∉fp)(T:Bool)(val:Nat->Nat)(l:∀i v,P i v->∃t,v=.int ((val i:Nat):Int) t)(N:∀i,i<n->val i<8):
  ∀(k i:Nat)(s:Shared),n-i=k->i<=n->St i s->yX s.heap S T (QK val i)->
   (∀a,Moved (S::wr) G s a->yX a.heap S T (QK val n)->R (.ok (.ret .none)) a)->
   codeAny (model prog w) A (.builtin "set.update.loop" ⟨[.ref S,.ref I],[]⟩) R s:=by
 have q:S∉wr:=λh=>r (W.sub _ h);have H:∀b∈wr,b∈S::wr:=λb p=>ao _ p;intro k
 induction k with
 |zero=>
  intro i s L X c E J;have z:i=n:=by lia
  subst z;refine codeAny_builtin F.entry_set_update_loop ?_;rw[Around.under_plainId F.plain_set_update_loop _];show wpAny _ A.in1 (pyNext (.ref I) >>= _) _ _ s;refine cz (W.done s _ _ c λa U=>?_);show wpAny _ A.in1 (ret Value.none) _ _ a;exact cA (J a (U.mono H) (E.keep λo y=>U.heap S _ q y))
 |succ k K=>
  intro i s L X c E J;have d:i<n:=by lia
  refine codeAny_builtin F.entry_set_update_loop ?_;rw[Around.under_plainId F.plain_set_update_loop _];show wpAny _ A.in1 (pyNext (.ref I) >>= _) _ _ s;refine cz (W.item i s _ _ d c λv a M f U=>?_);obtain⟨t,rfl⟩:=l i v M;have D:yX a.heap S T (QK val i):=E.keep λo y=>U.heap S _ q y;show wpAny _ A.in1 (holding [Value.int ((val i:Nat):Int) t] (setAdd S (.int ((val i:Nat):Int) t)) >>= _) _ _ a;refine cz (wpAny_holding ?_);unfold setAdd;refine wpAny_holding ?_;refine cz ((intKind prog w).pyHash (k:=((val i:Nat):Int)) (intKind_is _ _ _ _) ?_);refine EX (s:={ a with toks:=a.toks+1 }) D (N i d) λQ b g C=>?_
  have B:yX Q S T (QK val (i+1)):=by rw[DS];exact C
  refine cA ⟨plainId_quiet F.plain_set_update_loop _,K (i+1) _ (by lia) d (W.frame _ a _ _ f (le_succ _) λb p o e=>?_) B λx j u=>?_⟩
  ·rw[g.2 b (λh:b=S=>r (by rw[<- h];exact p))];exact e
  ·refine J x (Moved.trans W.gtrans ((U.mono H).then_heap (le_succ _) λb o p e=>?_) j) u
   rw[g.2 b (λh:b=S=>p (by rw[h];exact au))];exact e
end
section
variable {prog:Program}{A:Around}
def iW (l:Bool)(g:h.get? a=some (gU l)):yX h a l 0:=
 ⟨_,#[],0,g,⟨rfl,rfl,rfl⟩,(by cases l<;>rfl),.nil,by decide⟩
def Au {k:Bool}{A:Around}(H:A.handled=none)(I a:Addr)(n:a≠I)(s:Array Value):Walks prog w A I [I,a] [I] s.size (λi v=>s[i]? =some v) λi h=>jG k h I a i/\jX k h a s:=by
 cases k
 ·exact Walks.tuple H I a n s
 ·exact Walks.list H I a n s
def Ew {k:Bool}{l:Addr}{Z:cb}(B:A.handled=none)(j:jX k s.heap l ot.toArray)(g:IntsAre ot (Z.map λ(v:Nat)=>(v:Int)))(C:∀v∈Z,v<8)
  (h:∀(a:Heap)(tk:Nat),yX a s.heap.objs.size oy (Z.foldl yJ 0)->
   (∀b o,b<s.heap.objs.size->s.heap.get? b=some o->a.get? b=some o)->Q .none { s with heap:=a,toks:=tk }):
  codeAny (model prog w) A (.call (.builtin "set.__init__") ⟨[.ref s.heap.objs.size,.ref l],[]⟩) (wants Q E) { s with heap:=s.heap.push (gU oy) }:=by
 have hlen:ot.length=Z.length:=by
  have:∀{ot:b0}{ns:bZ},IntsAre ot ns->ot.length=ns.length:=λh=>by
   induction h with|nil=>rfl|cons _ _ _ I=>simp[I]
  rw[this g,ah]
 have S:(s.heap.push (gU oy)).get? s.heap.objs.size=some (gU oy):=ay _ rfl;refine codeAny_call_builtin F.called_set.init.plain F.entry_set_init (check_set_init_1 ⟨_,S,rfl⟩ ?_);have T1:jX k (s.heap.push (gU oy)) l ot.toArray:=j.to λo=>af _;have lt:l<s.heap.objs.size:=by obtain⟨ob,h1,_⟩:=j.ob;exact aG h1
 have sz:(s.heap.push (gU oy)).objs.size=s.heap.objs.size+1:=bj ..;have ne:l≠(s.heap.push (gU oy)).objs.size:=by rw[sz];exact aM (bb lt)
 have W:=(Au (k:=k) (prog:=prog) (w:=w) (A:=A.in1.in1) (by simp[B]) (s.heap.push (gU oy)).objs.size l ne ot.toArray).toS
 cases k
 all_goals
  obtain⟨⟨N,M,x,u⟩,g1,h2,n,p⟩:=id T1;dsimp only at h2 p;cases h2;cases p;have n1:=F.sub_list_set;have U:=F.sub_list_frozenset;have P:(Value.type "list" == Value.type "dict")=false:=by decide
  have m1:=F.sub_tuple_set;have Y:=F.sub_tuple_frozenset;have X:(Value.type "tuple" == Value.type "dict")=false:=by decide
  unfold Builtin.«set.__init__» noKeywords Builtin.Frozenset.updateFrom;generalize y:pyIter=PI
  wp_walk
  subst y;refine V3 T1 (cz (wpAny_runValue ?_));have d:ot.toArray.size=Z.length:=by rw[aD];exact hlen
  rw[d]at W;have off:s.heap.objs.size∉[(s.heap.push (gU oy)).objs.size,l]:=by
   rw[sz];intro hm;rcases cB.mp hm with z|hm
   ·exact aM (bz _) z
   ·exact br lt (cG.mp hm)
  have H:QK (λi=>Z.getD i 0) Z.length=Z.foldl yJ 0:=by
   unfold QK
   congr 1
   apply bg
   ·simp
   ·intro i h1 h2
    have hi:i<Z.length:=by simpa using h2
    simp[ae,aa hi]
  refine DP W s.heap.objs.size off oy (λi=>Z.getD i 0) (λi v e=>?_) (λi hi=>?_) Z.length 0 _ rfl (bR _) ⟨⟨_,ay _ rfl,rfl,rfl⟩,T1.to λo=>af _⟩ ?_ ?_
  ·obtain⟨t,f⟩:=IntsAre.int_at g i v (by simpa using e)
   refine⟨t,f.trans ?_⟩;have hi:i<Z.length:=by
    have:=(cD.mp (show ot[i]? =some v by simpa using e)).1
    lia
   congr 1
   simp[ae,ar,aa hi]
  ·rw[ae,aa hi]
   exact C _ (aJ hi)
  ·exact iW oy (af _ S)
  ·intro r mv q
   rw[H]at q;obtain⟨a,D,d',T,c⟩:=r;have K:D=s.gens:=mv.gens;have f:d'=s.drawn:=mv.drawn;have J:c=s.os:=mv.os;subst K f J;refine cA ?_;show wpAny _ _ (ret Value.none) _ _ _;refine cA (h a T q λb o L e=>mv.heap b o (λhm=>?_) (af _ (af _ e)));rcases cB.mp hm with z|hm
   ·exact aM L z
   ·exact aM (bb L) ((cG.mp hm).trans sz)
def Dh {k:Bool}{l:Addr}{I:cb}(n:A.handled=none)(t:jX k s.heap l ot.toArray)(j:IntsAre ot (I.map λ(v:Nat)=>(v:Int)))(p:∀v∈I,v<8)
  (h:∀(H:Heap)(D:Nat),yX H s.heap.objs.size (j5 w) (I.foldl yJ 0)->
   (∀b o,b<s.heap.objs.size->s.heap.get? b=some o->H.get? b=some o)->Q (.ref s.heap.objs.size) { s with heap:=H,toks:=D }):
  wpAny (model prog w) A (call (.type "set") [.ref l]) Q E s:=by
 obtain⟨c,q,g⟩:=F.called_set.mro;have N:=F.called_set.made;have M:=F.called_set.sub;have C:=F.called_set.notType;have z:=F.called_set.canCreate;have y:=F.typeCall_set_1 (.ref l);refine wpAny_call (codeAny_of_tree ?_);show wpAny _ _ (callAny (.type "set") _) _ _ _;refine cA ⟨Code.quiet_builtin _ (by decide +kernel),codeAny_builtin F.entry_type_call ?_⟩
 rw[Around.under_plain (weight_type_call_type "set" [.ref l] []) rfl]
 repeat (any_goals (first|assumption|wp_step))
 refine codeAny_mono (HB (.ref l) (E:=E) (Q1:=λu L=>u=.ref s.heap.objs.size/\L={ s with heap:=s.heap.push (gU (j5 w)) }) ⟨rfl,rfl⟩) λr L d=>?_
 cases r with
 |error e=>exact d|ok fl=>
  cases fl with
  |ret u=>
   obtain⟨rfl,rfl⟩:=d;have T:Shared.TypeIs { s with heap:=s.heap.push (gU (j5 w)) } (.ref s.heap.objs.size) "set":=⟨_,ay _ rfl,rfl⟩
   have x:=F.called_set.init.lookup;have B:=F.called_set.init.bind (.ref s.heap.objs.size)
   repeat (any_goals (first|assumption|wp_step))
   refine codeAny_mono (Ew (E:=E) (Q:=λv J=>v=.none/\∃H D,J={ s with heap:=H,toks:=D }/\yX H s.heap.objs.size (j5 w) (I.foldl yJ 0)/\
    ∀b o,b<s.heap.objs.size->s.heap.get? b=some o->H.get? b=some o) (by simp[n]) t j p λH D S K=>⟨rfl,H,D,rfl,S,K⟩) λi J a=>?_
   cases i with
   |error e=>exact a|ok f=>
    cases f with
    |ret v=>
     obtain⟨rfl,H,D,rfl,S,K⟩:=a
     repeat (any_goals (first|assumption|wp_step))
     exact h _ _ S K
    |_=>exact a.elim
  |_=>exact d.elim
end
theorem Py:∀{l:List α}{k:Nat}{w:α},l[k]? =some w->l.Perm (w::l.eraseIdx k)
 |x::l,0,w,h=>by simp at h;subst h;simp
 |x::l,k+1,w,h=>by rw[List.getElem?_cons_succ]at h;exact((Py h).cons x).trans (List.Perm.swap w x _)
def AI (next:Nat->Nat):∀(f k:Nat)(left:List α)(o:Array α),left.length=f->(pickOrder.go next f k left o).toList.Perm (o.toList++left):=by
 intro f
 induction f with
 |zero=>
  intro k left o h
  have:left=[]:=List.length_eq_zero_iff.mp h
  subst this;unfold pickOrder.go;simp
 |succ f i=>
  intro k left o h;have H:next k%left.length<left.length:=Nat.mod_lt _ (by lia)
  unfold pickOrder.go;rw[aa H];refine(i (k+1) _ _ (by rw[List.length_eraseIdx_of_lt H];lia)).trans ?_
  rw[Array.toList_push,aX];exact List.Perm.append_left _ (Py (aa H)).symm
def Dq (next:Nat->Nat)(x:Array α):(pickOrder next x).toList.Perm x.toList:=by
 unfold pickOrder
 have:=AI next x.size 0 x.toList #[] (by simp)
 simpa using this
namespace F
def Hf:entryFor table "set.__iter__"=some Builtin.«frozenset.__iter__»:=entryFor_alias (id' := "frozenset.__iter__") (by kernel_rfl) rfl (by decide +kernel) (by kernel_rfl)
def LS:entryFor table "set_iterator.__iter__"=some Builtin.«dict_keyiterator.__iter__»:=entryFor_alias (id' := "dict_keyiterator.__iter__") (by kernel_rfl) rfl (by decide +kernel) (by kernel_rfl)
def SD:Manifest.owners.lookup (String.ofList ['r','o','t','a','r','e','t','i','_','t','e','s'].reverse)=some Manifest.sig_set_iterator:=by kernel_rfl
def Yc:Slot "set_iterator" "__next__" "set_iterator.__next__":=
 .of (owner := "set_iterator") (n := "__next__") (by rw[typeLookup_type,builtinLookup_eq_fast];kernel_rfl) (by decide +kernel) (by decide +kernel) (by decide +kernel)
  (by first|exact .inl (by decide +kernel)|exact .inr (by decide +kernel)) (by rw[isSubtype_type];kernel_rfl)
def Sr:entryFor table "set_iterator.__next__"=some Builtin.«set_iterator.__next__»:=entryFor_of_tree (by kernel_rfl)
def So (a:Value):argsOk "set_iterator.__next__" ⟨[a],[]⟩:=by unfold argsOk;rw[signature?_of (n:=['_','_','t','x','e','n','_','_']) (by kernel_rfl) SD];kernel_rfl
def LR (a:Value):argsOk "set_iterator.__iter__" ⟨[a],[]⟩:=by unfold argsOk;rw[signature?_of (n:=['_','_','r','e','t','i','_','_']) (by kernel_rfl) SD];kernel_rfl
def Ss:Slot "set_iterator" "__iter__" "set_iterator.__iter__":=
 .of (owner := "set_iterator") (n := "__iter__") (by rw[typeLookup_type,builtinLookup_eq_fast];kernel_rfl) (by decide +kernel) (by decide +kernel) (by decide +kernel)
  (by first|exact .inl (by decide +kernel)|exact .inr (by decide +kernel)) (by rw[isSubtype_type];kernel_rfl)
end F
def K9 (n i:Nat):Nat:=match i with|0=>0|i+1=>(qd n).getD i 0+1
def Mb (n i:Nat):Bool:=decide ((qd n).length<i) || (SetTable.below (qd n).toArray (K9 n i)==i)
def BI:((List.range 256).all λn=>(List.range 9).all λi=>Mb n i)=true:=by decide +kernel
def BX (a:n<256)(b:i<=(qd n).length):SetTable.below (qd n).toArray (K9 n i)=i:=by
 have H:=YS n;have h:=cF.mp (cF.mp BI n (cE.mpr a)) i (cE.mpr (by lia))
 unfold Mb at h;rw[aF (by lia),Bool.false_or,aL]at h
 exact h
def Jz (h:Heap)(I S:Addr)(s i n e:Nat):Prop:=∃o,h.get? I=some o/\o.cls=.type "set_iterator" /\ o.data=.fields #[.int s 0,.int i 0,.ref S,.int n 0,.int e 0]
noncomputable def wY (w:World)(a:Addr)(E:Nat)(e:Array (Int×Value)):Array (Int×Value):=if w.params.followText "set-order" then pickOrder (w.params.setOrder a E) e else e
def Kt (w:World)(a:Addr)(E:Nat)(e:Array (Int×Value)):(wY w a E e).toList.Perm e.toList:=by
 unfold wY
 split
 ·exact Dq _ _
 ·exact List.Perm.refl _
def wW (w:World)(n i:Nat):Nat:=if w.params.followText "set-order" then 0 else K9 n i
section
variable {prog:Program}{A:Around}{o:Obj}{es:Array (Int×Value)}{ep:Nat}
def Vm {Q:Bool->Shared->Prop}(h:Q (w.params.followText "set-order") s):wpAny (model prog w) A setsByText Q E s:=by exact cz (wpAny_askSetting (cA h))
def Ir (H:s.heap.get? a=some o)(x:o.ExactSet)(d:o.data=.set es ep (jg (j5 w) n))(i:jn es.toList (qd n))(g:n<256)
  (b:Q (.ref s.heap.objs.size) { s with heap:=s.heap.push { cls:=.type "set_iterator",data:=.fields #[.int 0 0,.int 0 0,.ref a,.int es.size 0,.int ep 0] } }):
  wpAny (model prog w) A (pyIter (.ref a)) Q E s:=by
 have T:s.TypeIs (.ref a) "set":=⟨o,H,x.1⟩;have c:es.size=(qd n).length:=by rw[<- aT,i.length]
 have f:(jg (j5 w) n).fits es.size=true:=by rw[c];exact fits_of g _
 refine wpAny_pyIter_slot T slot_set_iter (wpAny_call_entry slot_set_iter T F.Hf ?_ (PySem.F.args_set_iter_1 _));show wpAny _ _ (Builtin.Frozenset.sizeOf a >>= _) _ _ s;refine cz (cz (wpAny_setEntries_of H d f (cA ?_)));refine cz (cz (wpAny_setState_of H d f ?_));refine cz (Vm (cA ?_));rw[av (λh=>by have e:(!w.params.followText "set-order" && (!(jg (j5 w) n).plain&&decide (es.size > 1)))=true:=h;rw[VD]at e;simp at e)]
 refine cz (cA ?_);refine cz (wpAny_setEpoch_of H d f ?_);exact cz (wpAny_newObj_type (cA ⟨_,rfl,"set_iterator",_,⟨_,ay _ rfl,rfl⟩,F.Yc.lookup,b⟩))
def Rh {Q:Option (Value×Nat)->Shared->Prop}(c:s.heap.get? a=some o)(u:o.data=.set es ep (jg (j5 w) n))(y:jn es.toList (qd n))(q:n<256)(z:i<=es.size)
  (h:Q (((wY w a ep es)[i]?).map λe=>(e.2,wW w n (i+1))) s):wpAny (model prog w) A (setNext a (wW w n i) i ep) Q E s:=by
 have l:es.size=(qd n).length:=by rw[<- aT,y.length]
 have r:(jg (j5 w) n).fits es.size=true:=by rw[l];exact fits_of q _
 refine cz (wpAny_setState_of c u r ?_);refine cz (Vm ?_);unfold wY wW at h;cases t:w.params.followText "set-order" with
 |true=>
  rw[t]at h;have p:¬((ep != ep)=true):=by simp
  rw[av p];refine cz (cz (wpAny_setState_of c u r ?_));refine cz (Vm ?_);rw[t];refine cz (wpAny_askSetting (cA (cA ?_)));unfold wW;rw[t];exact h
 |false=>
  rw[t]at h;simp only[bP,↓reduceIte]at h ⊢;rw[av (λh=>by have x:(!(jg (j5 w) n).plain&&decide (es.size > 1))=true:=h;rw[VD]at x;simp at x)]
  have d:(jg (j5 w) n).led=true:=by rw[iU];unfold j5;rw[t];rfl
  refine cz ?_;show wpAny _ _ (if (!(jg (j5 w) n).led&&!es.isEmpty)=true then unsupported "set:maker-not-led" else pure ()) _ _ _;rw[d];refine cA ?_;have j:SetTable.below (jg (j5 w) n).place (wW w n i)=i:=by rw[Od];unfold wW;rw[t];exact BX q (by lia)
  rw[j,Od];refine cA ?_
  by_cases b:i<es.size
  ·have v:(qd n)[i]? =some ((qd n)[i]'(by lia)):=aa (by lia)
   have g:(qd n).toArray[i]? =some ((qd n)[i]'(by lia)):=by rw[List.getElem?_toArray];exact v
   have H:=Array.getElem?_eq_getElem b;rw[H]at h;rw[H,g];have f:K9 n (i+1)=(qd n)[i]'(by lia)+1:=by
    show(qd n).getD i 0+1=_;rw[ae,v]
    rfl
   rw[f]at h;exact h
  ·have H:es[i]? =none:=Array.getElem?_eq_none (by lia)
   rw[H]at h;rw[H];exact h
def LU {I:Addr}{e:Int×Value}{Q:Option Value->Shared->Prop}(t:Jz s.heap I a (wW w n i) i es.size ep)(d:s.heap.get? a=some o)(v:o.ExactSet)(r:o.data=.set es ep (jg (j5 w) n))(q:jn es.toList (qd n))(p:n<256)(x:(wY w a ep es)[i]? =some e)
  (g:∀b,Jz b I a (wW w n (i+1)) (i+1) es.size ep->Heap.SameBut I s.heap b->Q (some e.2) { s with heap:=b }):
  wpAny (model prog w) A (pyNext (.ref I)) Q E s:=by
 obtain⟨c,H,f,h⟩:=id t;have T:s.TypeIs (.ref I) "set_iterator":=⟨c,H,f⟩;have j:es.size=(qd n).length:=by rw[<- aT,q.length]
 refine cz (wpAny_attempt (wpAny_callSpecial?_slot T F.Yc
  (wpAny_call_entry F.Yc T F.Sr ?_ (F.So _))))
 show wpAny _ _ (fieldsOf (.ref I) >>= _) _ _ s;refine cz (wpAny_fieldsOf H h ?_);refine cz (wpAny_setEntries_of d r (by rw[j];exact fits_of p _) ?_)
 rw[av (by simp)]
 have u:i<es.size:=by have l:=(Array.getElem?_eq_some_iff.mp x).1;have y:=(Kt w a ep es).length_eq;simp at y;lia
 simp only[aQ];refine cz (Rh d r q p (bJ u) ?_);rw[x];refine cz (wpAny_setField H h (by simp) ?_)
 have l:(s.heap.update I (Obj.mapFields (·.setIfInBounds 0 (rawInt (wW w n (i+1)))))).get? I=some (Obj.mapFields (·.setIfInBounds 0 (rawInt (wW w n (i+1)))) c):=a4 _ H (Obj.isFreed_of_fields (Obj.data_mapFields h _));refine cz (wpAny_setField l (Obj.data_mapFields h _) (by simp) ?_)
 refine cA ⟨e.2,rfl,cA (g _ ?_ ((Heap.SameBut.update ..).trans (Heap.SameBut.update ..)))⟩;refine⟨_,a4 _ l (Obj.isFreed_of_fields (Obj.data_mapFields (Obj.data_mapFields h _) _)),(Obj.cls_mapFields ..).trans ((Obj.cls_mapFields ..).trans f),?_⟩;rw[Obj.data_mapFields (Obj.data_mapFields h _)];simp[rawInt]
def LZ {I:Addr}{Q:Option Value->Shared->Prop}(c:A.handled=none)(t:Jz s.heap I a (wW w n es.size) es.size es.size ep)(b:s.heap.get? a=some o)(q:o.ExactSet)(p:o.data=.set es ep (jg (j5 w) n))(l:jn es.toList (qd n))(j:n<256)
  (f:∀d,Heap.ExtBut I s.heap d->Q none { s with heap:=d }):wpAny (model prog w) A (pyNext (.ref I)) Q E s:=by
 obtain⟨i,h,e,H⟩:=id t;have T:s.TypeIs (.ref I) "set_iterator":=⟨i,h,e⟩;have g:es.size=(qd n).length:=by rw[<- aT,l.length]
 refine cz (wpAny_attempt (wpAny_callSpecial?_slot T F.Yc
  (wpAny_call_entry F.Yc T F.Sr ?_ (F.So _))))
 show wpAny _ _ (fieldsOf (.ref I) >>= _) _ _ s;refine cz (wpAny_fieldsOf h H ?_);refine cz (wpAny_setEntries_of b p (by rw[g];exact fits_of j _) ?_)
 rw[av (by simp)]
 simp only[aQ];refine cz (Rh b p l j (ax _) ?_);have x:(wY w a ep es)[es.size]? =none:=Array.getElem?_eq_none (by have r:=(Kt w a ep es).length_eq;simp at r;lia)
 rw[x];refine cz (wpAny_setField h H (by simp) ?_)
 refine cz ?_;refine cz (m:=firstArgMember _ _) (wpAny_of_eq (by first|rfl|(simp only[firstArgMember];rfl)) ?_)
 refine wpAny_newObj_type ?_ (by size_fits)
 refine cz (wpAny_handled ?_)
 first|rw[show A.in1.handled=none from c]|rw[c]
 refine cz (cA (wpAny_throw ?_));refine cz (wpAny_isInstance ⟨_,ay _ rfl,rfl⟩ isSubtype_stop ?_);exact cA (f _ (((Heap.SameBut.update ..).extBut.push _).push _))
end
def Jz.typeIs {I S:Addr}{t e:Nat}(h:Jz s.heap I S t i n e):s.TypeIs (.ref I) "set_iterator":=let ⟨o,H,c,_⟩:=h;⟨o,H,c⟩
section
variable {prog:Program}{A:Around}{o:Obj}{es:Array (Int×Value)}{ep:Nat}
def L3 {I S:Addr}{t m e:Nat}(H:Jz s.heap I S t i m e)(h:Q (.ref I) s):wpAny (model prog w) A (pyIter (.ref I)) Q E s:=by refine wpAny_pyIter_slot H.typeIs F.Ss (wpAny_call_entry F.Ss H.typeIs F.LS ?_ (F.LR _));exact cA ⟨_,rfl,"set_iterator",_,H.typeIs,F.Yc.lookup,h⟩
def Walks.setP (r:A.handled=none)(I a:Addr)(g:a≠I)(t:o.ExactSet)(B:o.data=.set es ep (jg (j5 w) n))(y:jn es.toList (qd n))(u:n<256):
  Walks prog w A I [I,a] [I] es.size (λi v=>∃e,(wY w a ep es)[i]? =some e/\v=e.2) (λi h=>Jz h I a (wW w n i) i es.size ep/\h.get? a=some o) where
 sub:=λb H=>by simp at H;simp[H]
 frame:=λ_ _ _ S q=>⟨let ⟨x,D,C⟩:=S.1;⟨x,q I (by simp) x D,C⟩,q a (by simp) o S.2⟩
 item:=λi s Q E J S f=>by
  have z:=by have:=(Kt w a ep es).length_eq;simpa using this
  have p:(wY w a ep es)[i]? =some ((wY w a ep es)[i]'(by lia)):=Array.getElem?_eq_getElem (by lia)
  refine LU S.1 S.2 t B y u p λl d c=>?_;refine f _ l s.toks ⟨_,p,rfl⟩ ⟨d,?_⟩ λb o H e=>c.extBut b o (λh=>H (by simp[h])) e
  exact c.extBut a o g S.2
 done:=λs Q E S f=>LZ r S.1 S.2 t B y u λl j=>f l s.toks λb o H e=>j b o (λh=>H (by simp[h])) e
 self:=λ_ _ _ _ S f=>L3 S.1 f
def EC:typeLookup (.type "set") "__len__"=pure (some (.builtin "set.__len__")):=by rw[typeLookup_type,builtinLookup_eq_fast];kernel_rfl
def Ia {Q:List Value->Shared->Prop}(P:A.handled=none)(K:s.heap.get? a=some o)(hex:o.ExactSet)(hd:o.data=.set es ep (jg (j5 w) n))(he:jn es.toList (qd n))(hn:n<256)
  (U:∀(p:Heap)(tk:Nat),(∀b o,b<s.heap.objs.size->s.heap.get? b=some o->p.get? b=some o)->s.heap.objs.size<=p.objs.size->Q ((wY w a ep es).toList.map (·.2)) { s with heap:=p,toks:=tk }):
  wpAny (model prog w) A (collect (.ref a)) Q E s:=by
 have t:=aG K;refine cz (wpAny_runValue (codeAny_builtin PySem.F.entry_proto_collect ?_));refine cz (wpAny_newObj_type ?_);refine cA ⟨plainId_quiet PySem.F.plain_list_iadd _,codeAny_builtin PySem.F.entry_list_iadd ?_⟩;show wpAny _ A.in1 (Builtin.List.listExtendWith (.ref s.heap.objs.size) (.ref a) (.ref s.heap.objs.size)) _ _ _;have d:(s.heap.push { cls:=.type "list",data:=.seq ([]:b0).toArray }).get? a=some o:=af _ K;refine cz (wpAny_typeOf (⟨o,d,hex.1⟩) ?_);have h1:Builtin.List.listSameRef (.ref s.heap.objs.size) (.ref a)=false:=by simp[Builtin.List.listSameRef];exact br t
 have h2:(Value.type "set" == Value.type "list")=false:=by decide
 have I:(Value.type "set" == Value.type "tuple")=false:=by decide
 simp only[h1,h2,I,Bool.or_false,bP,if_false];refine cz (Ir d hex hd he hn ?_);refine cz (wpAny_holding ?_);generalize y:s.heap.push { cls:=.type "list",data:=.seq ([]:b0).toArray }=H;have i:H.objs.size=s.heap.objs.size+1:=by rw[<- y,bj]
 have q:H.get? a=some o:=by rw[<- y];exact d
 generalize g:({ cls:=.type "set_iterator",data:=.fields #[.int 0 0,.int 0 0,.ref a,.int es.size 0,.int ep 0] }:Obj)=io;have f:Shared.TypeIs { s with heap:=H.push io } (.ref a) "set":=⟨o,af _ q,hex.1⟩
 refine cz (wpAny_specialOf f EC ?_);refine cz (wpAny_isInstance (b:=true) f (by rw[isSubtype_type];kernel_rfl) ?_)
 refine cz (wpAny_typeOf f ?_);refine cA ?_;refine cz (wpAny_rule ?_);have u:(H.push io).get? s.heap.objs.size=some { cls:=.type "list",data:=.seq ([]:b0).toArray }:=af _ (by rw[<- y];exact ay _ rfl)
 refine cz ?_;refine cz (wpAny_updateSeq u rfl ?_);have r:=a4 (Obj.mapSeq (·.push Value.none)) u rfl;refine wpAny_updateSeq r rfl ?_;have oth:∀b o,b≠s.heap.objs.size->(H.push io).get? b=some o->(((H.push io).update s.heap.objs.size (Obj.mapSeq (·.push Value.none))).update s.heap.objs.size (Obj.mapSeq (·.pop))).get? b=some o:=
  λb o l e=>(aR _ _ (Ne.symm l)).trans ((aR _ _ (Ne.symm l)).trans e)
 have x:H.objs.size≠s.heap.objs.size:=by rw[i];exact Nat.succ_ne_self _
 have S:=aM t;have D:s.heap.objs.size∉[H.objs.size,a]:=λhm=>by
  rcases cB.mp hm with z|hm
  ·exact x z.symm
  ·exact S (cG.mp hm).symm
 have hlen:es.size=(qd n).length:=by rw[<- aT,he.length]
 have h8:=YS n;refine cA ⟨plainId_quiet PySem.F.plain_extend_loop _,codeAny_extend_loopS ((Walks.setP (by simp[P]) H.objs.size a (by rw[i];exact aM (bb t)) hex hd he hn).toS) (by rw[sizeLine_eq];lia) _ D _ es.size 0 _ _ _ rfl (bR _) ⟨?_,oth a o S (af _ q)⟩ (a4 (Obj.mapSeq (·.pop)) r rfl) (ItemsOf.nil _) λJ c c' hm v h=>?_⟩
 ·refine⟨io,oth _ _ x (ay _ (by rw[<- g];rfl)),by rw[<- g],?_⟩
  rw[<- g]
  have:wW w n 0=0:=by unfold wW K9;split<;>rfl
  rw[this]
  rfl
 refine cz (wpAny_load v ?_);have M:c.toList=(wY w a ep es).toList.map (·.2):=by
  have B:=by have:=(Kt w a ep es).length_eq;simpa using this
  apply ext_getElem?
  intro j
  by_cases N:j<es.size
  ·have h1:=Array.getElem?_eq_getElem (by rw[h.1];exact N)
   obtain⟨e,h2,I⟩:=h.2 j _ h1;rw[bE,h1,ar,bE,h2,I]
   rfl
  ·rw[aw (by rw[aT,h.1];lia),aw (by rw[ah,aT,B];lia)]
 show wpAny _ A (pure c.toList) _ _ J;rw[M];obtain⟨p,g',d',T,L⟩:=J;have Z:=hm.gens;have Y:=hm.drawn;have X:=hm.os;subst Z Y X;refine cA (U p T (λb ob l e=>?_) ?_)
 ·refine hm.heap b ob (λC=>?_) (oth b ob (aM l) (af _ (by rw[<- y];exact af _ e)))
  rcases cB.mp C with z|z
  ·exact aM l z
  ·exact aM (bb l) ((cG.mp z).trans i)
 ·exact bJ (aG (show p.get? s.heap.objs.size=_ from v))
end
theorem Oc:∀{a b:bZ},a.Perm b->a.Pairwise (·<=·)->b.Pairwise (·<=·)->a=b
 |[],b,p,_,_=>by rw[List.nil_perm.mp p]|x::a,[],p,_,_=>absurd p.length_eq (by simp)|x::a,y::b,p,H,h=>by
  have e:x=y:=by
   rcases cB.mp (p.mem_iff.mp (au ..)) with e|e
   ·exact e
   ·rcases cB.mp (p.mem_iff.mpr (au ..)) with E|E
    ·exact E.symm
    ·have d:=(List.pairwise_cons.mp h).1 x e
     have c:=(List.pairwise_cons.mp H).1 y E;lia
  subst e;rw[Oc (List.Perm.cons_inv p) (List.pairwise_cons.mp H).2 (List.pairwise_cons.mp h).2]
def iX (n v i:Nat):(yJ n v).testBit i=(n.testBit i || decide (i=v)):=by
 unfold yJ
 by_cases h:n.testBit v=true
 ·rw[aj h]
  by_cases e:i=v
  ·subst e;simp[h]
  ·simp[e]
 ·rw[av h]
  unfold jw;rw[Nat.testBit_or,Nat.one_shiftLeft,Nat.testBit_two_pow]
  by_cases e:v=i
  ·subst e;simp
  ·simp[e,Ne.symm e]
theorem OE (i:Nat):∀(s:cb)(n:Nat),(s.foldl yJ n).testBit i=(n.testBit i || decide (i∈s))
 |[],n=>by simp|v::s,n=>by
  rw[List.foldl_cons,OE i s,iX]
  by_cases e:i=v
  ·simp[e]
  ·simp[e]
def DF (v:cb):qd (v.foldl yJ 0)=(List.range 8).filter λi=>decide (i∈v):=by
 unfold qd
 congr 1
 funext i
 rw[OE];simp
def Ds (n:Nat):((qd n).map λ(i:Nat)=>(i:Int)).Pairwise (·<=·):=by rw[List.pairwise_map];refine List.Pairwise.imp ?_ (List.Pairwise.filter _ bW);lia
def jn.snd {s:cb}(h:jn es s):∀e∈es,∃tk,e.2=.int e.1 tk:=by
 induction h with
 |nil=>intro e H;cases H|cons v tk h i=>
  intro e H;rcases cB.mp H with rfl|H
  ·exact⟨tk,rfl⟩
  ·exact i e H
theorem Rq:∀{l:List (Int×Value)},(∀e∈l,∃tk,e.2=.int e.1 tk)->IntsAre (l.map (·.2)) (l.map (·.1))
 |[],_=>.nil|e::l,h=>by obtain⟨tk,a⟩:=h e (au ..);rw[a5,a5,a];exact .cons _ tk (Rq λx H=>h x (ao _ H))
section
variable {prog:Program}{A:Around}{o:Obj}{es:Array (Int×Value)}{ep:Nat}
def F1 (u:A.handled=none)(S:yX s.heap a (j5 w) n)
  (h:∀(j:Heap)(T:Nat)(l:Addr)(I:b0)(c:Nat),s.heap.objs.size<=l->j.get? l=some { cls:=.type "list",data:=.seq I.toArray c }->IntsAre I ((qd n).map λ(i:Nat)=>(i:Int))->
   (∀b o,s.heap.get? b=some o->j.get? b=some o)->Q (.ref l) { s with heap:=j,toks:=T }):
  wpAny (model prog w) A (call (.builtin "sorted") [.ref a]) Q E s:=by
 obtain⟨o,d,p,t,J,X,D,P⟩:=S;refine Calls.call_function_entry kind_sorted plain_sorted entry_sorted (args_sorted1 _) ?_;refine cz (cA ?_);refine cz (Ia (by simp[u]) t J X D P λz T M C=>?_)
 have f:=Kt w a p d;have r:=Rq λe U=>D.snd e (f.mem_iff.mp U);have H:((wY w a p d).toList.map (·.1)).Perm ((qd n).map λ(i:Nat)=>(i:Int)):=by rw[<- D.map1];exact f.map _
 have B:((wY w a p d).toList.map (·.2)).length<=8:=by rw[ah,f.length_eq,D.length];exact YS n
 generalize (wY w a p d).toList.map (·.2)=vs at r B;refine cz (wpAny_newList ?_);have L:(z.push (seqObj "list" vs.toArray 0)).get? z.objs.size=some (seqObj "list" vs.toArray 0):=ay _ rfl;refine cz (wpAny_holding (wpAny_call_entry slot_list_sort ⟨_,L,rfl⟩ entry_list_sort (list_sort_tree L r (by lia) λy N Z Y x=>⟨_,rfl,?_⟩) (args_list_sort _)))
 have g:=Oc (Y.trans H) x (Ds n);subst g;refine cA ⟨_,rfl,?_⟩;obtain⟨c,v⟩:∃c,(sortedHeap (z.push (seqObj "list" vs.toArray 0)) z.objs.size vs y).get? z.objs.size=some (seqObj "list" y c):=⟨_,get?_update_seq (af (seqObj "list" #[] 0) (af (seqObj "tuple" vs.toArray 0) (get?_update_seq L (λ_=>(#[]:Array Value))))) (λ_=>y)⟩;refine h _ T z.objs.size y.toList c C ?_ Z λb ob e=>?_
 ·rw[Array.toArray_toList]
  exact v
 ·have q:=aG e
  have K:=br (aE q C);refine(aR _ _ K).trans ?_;refine af _ (af _ ?_);exact(aR _ _ K).trans (af _ (M b ob q e))
end
section
variable {m:Ev}
def iY (K:Frag)(w:World):List V->Hp->VK->Prop:=λx H Q=>∃(k:Bool) (p:Addr) (vs:cb),x=[.ref p]/\kq k K H p (vs.map λ(v:Nat)=>V.int (v:Int))/\(∀v∈vs,v<8)/\∀l,H l=none->Q (.ref l) (upd H l (.ext λh=>yX h l (j5 w) (vs.foldl yJ 0)))
def DB (f:X.calm=true):jU X (.type "set") (iY X.K X.w):=by
 intro P s x H y U Q I r h;obtain⟨k,p,n,rfl,c,g,q⟩:=h;obtain⟨u,rfl,ru⟩:=vals1 r;cases ru;obtain⟨i,v,at_,_⟩:=I.sq c;refine Dh (I.ok.hd f) at_ (intsAre_of (by rw[aU];exact v)) g λj T S t=>?_
 refine⟨.ref s.heap.objs.size,_,I.laid (o:=.ext λh=>yX h s.heap.objs.size (j5 X.w) (n.foldl yJ 0)) (λb o e=>t b o (aG e) e) (ax _) ⟨S,?_,λA z a b=>a.keep b⟩,rfl,q _ (I.hok.fresh (ax _))⟩;obtain⟨o,E,l,d,_⟩:=S;exact⟨o,d⟩
theorem VE:∀{N:bZ}{i:b0},IntsAre i N->Vals (N.map V.int) i
 |_,_,.nil=>.nil|_,_,.cons n t h=>.cons ⟨t,rfl⟩ (VE h)
def FA (e:X.calm=true):jU X (.builtin "sorted") (λxs H Q=>∃(p:Addr) (n:Nat),xs=[.ref p]/\H p=some (.ext λh=>yX h p (j5 X.w) n)/\∀l,H l=none->Q (.ref l) (upd H l (.lst ((qd n).map λ(v:Nat)=>V.int (v:Int))))):=by
 intro P s t H xs U Q I r h;obtain⟨p,n,rfl,d,q⟩:=h;obtain⟨u,rfl,ru⟩:=vals1 r;cases ru;refine F1 (I.ok.hd e) ((show jk X.prog X.w H s.heap p (.ext λh=>yX h p (j5 X.w) n) from I.hok p _ d).1) λf T l i c b g j K=>?_
 have a:=VE j;rw[aU]at a;refine⟨.ref l,_,I.laid (o:=.lst ((qd n).map λ(v:Nat)=>V.int (v:Int))) K b ⟨?_,i,c,a,g⟩,rfl,q _ (I.hok.fresh b)⟩;rw[ah,sizeLine_eq]
 have:=YS n
 lia
noncomputable def Jc:List Int->Option (cb)
 |[]=>some []|i::is=>if 0<=i/\i<8 then(Jc is).map (i.toNat::·) else none
theorem PJ:∀{I:bZ}{s:cb},Jc I=some s->I=s.map (λ(v:Nat)=>(v:Int))/\∀v∈s,v<8
 |[],_,e=>by cases e;exact⟨rfl,λv H=>by cases H⟩|i::I,s,e=>by
  unfold Jc at e
  by_cases h:0<=i/\i<8
  ·rw[aj h]at e
   cases E:Jc I with
   |none=>rw[E]at e;cases e|some u=>
    rw[E]at e;cases e;obtain⟨b,a⟩:=PJ E;refine⟨?_,λv H=>?_⟩
    ·rw[a5,<- b,Int.toNat_of_nonneg h.1]
    ·rcases cB.mp H with rfl|H
     ·lia
     ·exact a v H
  ·rw[av h]at e;cases e
def Gv:W->Hx->R W:=λw A=>match zK w A with
 |some s=>match intsOf s with
  |some I=>match Jc I with|some v=>.ok (.ref A.length) (A++[.lst (((List.range 8).filter λi=>decide (i∈v)).map λ(i:Nat)=>W.int (i:Int))])|none=>.bad
  |none=>.bad
 |none=>.bad
def Kx (m:Ev):Ev:=λa A=>(m a A).bind λw b=>Gv w b
end
def DR (a b:Value):argsOk "sum" ⟨[a,b],[]⟩:=by unfold argsOk;kernel_rfl
def sub_list_str:isSubtype (.type "list") (.type "str")=pure false:=by rw[isSubtype_type];kernel_rfl
def sub_list_bytes:isSubtype (.type "list") (.type "bytes")=pure false:=by rw[isSubtype_type];kernel_rfl
def sub_list_bytearray:isSubtype (.type "list") (.type "bytearray")=pure false:=by rw[isSubtype_type];kernel_rfl
noncomputable abbrev ZG (x:Array Value)(c:Nat):Obj:={ cls:=.type "list",dict:=none,data:=.seq x c,slots:=#[] }
section
variable {prog:Program}{A:Around}{R:Result->Shared->Prop}{I:Addr}{wr:b8}{G:Array GenState->Array GenState->Prop}{P:Nat->Value->Prop}{St:Nat->Shared->Prop}
def D4 (W:WalksS prog w A.in1 I fp wr G n P St)(S B:Addr)(z:S∉fp)(hBS:B<=S)(ad:Nat->Addr)(a:Nat->List Value)(r:∀i v,P i v->v=.ref (ad i))(p:∀i,i<n->ad i≠S/\ad i∉wr)(X:∀b∈wr,b<S):
  ∀(k i:Nat)(s:Shared)(T:Addr)(c M:Nat)(acc:b0),n-i=k->i<=n->St i s->s.heap.get? S=some (ZG #[.ref T] c)->T≠S->T∉wr->s.heap.get? T=some (ZG acc.toArray M)->
   (∀j,i<=j->j<n->∃cj,s.heap.get? (ad j)=some (ZG (a j).toArray cj))->(acc++(((List.range' i k).map a).flatten)).length<=sizeLine->
   (∀d Q c',Moved (S::wr) G s d->d.heap.get? Q=some (ZG (acc++(((List.range' i k).map a).flatten)).toArray c')->((k=0/\Q=T)∨B<=Q)->R (.ok (.ret (.ref Q))) d)->
   codeAny (model prog w) A (.builtin "sum.loop" ⟨[.ref I,.ref S,rawInt 2,rawInt 0],[]⟩) R s:=by
 have f:∀b∈wr,b∈S::wr:=λb g=>ao _ g;intro k
 induction k with
 |zero=>
  intro i s T c M acc hk hi t K hTS q hT hl J L;have hin:i=n:=by lia
  subst hin;refine codeAny_builtin PySem.F.entry_sum_loop ?_;refine cz (wpAny_seqItems K rfl ?_);refine cz (wpAny_tryCatch (W.done s _ _ t λd hm=>?_));refine cA (L d T M (hm.mono f) ?_ (.inl ⟨rfl,rfl⟩))
  have:=hm.heap T _ q hT
  simpa using this
 |succ k ih=>
  intro i s T c M acc hk hi t K hTS q hT hl J L;have H:i<n:=by lia
  refine codeAny_builtin PySem.F.entry_sum_loop ?_;refine cz (wpAny_seqItems K rfl ?_);refine cz (wpAny_tryCatch (W.item i s _ _ H t λv d hP u hm=>?_));have hv:=r i v hP;subst hv;have E:=hm.heap S _ (λh=>z (W.sub _ h)) K;obtain⟨ci,hli⟩:=hl i (ax _) H;rw[range'_succ,a5,a3,<- aX]at J L;refine cz (wpAny_attempt (wpAny_holding (PySem.P.add_list (hm.heap T _ q hT) (hm.heap (ad i) _ (p i H).2 hli) ?_ (by rw[aD,aD,<- ai];exact(by rw[ai]at J;lia)))))
  have ea:acc.toArray++(a i).toArray=(acc++a i).toArray:=by simp
  rw[ea];have l:=aG E;have D:=af (ZG (acc++a i).toArray 0) E;refine cz (wpAny_updateSeq D rfl ?_);have C:=a4 (Obj.mapSeq λ_=>#[Value.ref d.heap.objs.size]) D rfl;refine cz (wpAny_letGo ?_);have N:=br l;have oth:∀b o,b≠S->d.heap.get? b=some o->(((d.heap.push (ZG (acc++a i).toArray 0)).update S (Obj.mapSeq λ_=>#[Value.ref d.heap.objs.size])).update S (Obj.mapSeq λ_=>#[Value.ref d.heap.objs.size])).get? b=some o:=
   λb o g e=>(aR _ _ (Ne.symm g)).trans ((aR _ _ (Ne.symm g)).trans (af _ e))
  refine cz (wpAny_updateSeq C rfl (cA ⟨plainId_quiet PySem.F.plain_sum_loop _,ih (i+1) _ d.heap.objs.size _ 0 (acc++a i) (by lia) H (W.frame _ d _ _ u (by first|exact ax _|exact le_succ _|lia) λb g o e=>oth b o (λh=>z (h ▸ g)) e) (a4 _ C rfl) N (λZ=>aZ _ (lt_trans (X _ Z) l)) ?_ ?_ J λU T'' c'' x y Y=>?_⟩))
  ·exact(aR _ _ (Ne.symm N)).trans ((aR _ _ (Ne.symm N)).trans (ay _ rfl))
  ·intro j h1 h2
   obtain⟨cj,hj⟩:=hl j (by lia) h2
   exact⟨cj,oth _ _ (p j h2).1 (hm.heap _ _ (p j h2).2 hj)⟩
  ·refine L U T'' c'' (Moved.trans W.gtrans ((hm.mono f).then_heap (by first|exact ax _|exact le_succ _|lia) λb o g e=>oth b o (λh=>g (by rw[h];exact au)) e) x) y (.inr ?_)
   rcases Y with ⟨_,rfl⟩|h
   ·exact bJ (Nat.lt_of_le_of_lt hBS l)
   ·exact h
def D1 {p q:Addr}{P:Nat}{a:b8}{I:List (b0)}(hh:A.handled=none)(y:s.heap.IsList p (a.map Value.ref).toArray)(U:s.heap.get? q=some (ZG #[] P))
  (hlen:a.length=I.length)(X:∀i,i<a.length->∃c,s.heap.get? (a.getD i 0)=some (ZG (I.getD i []).toArray c))(C:a≠[])(hz:I.flatten.length<=sizeLine)
  (h:∀(u:Heap)(tk:Nat)(l:Addr)(c:Nat),s.heap.objs.size<=l->u.get? l=some (ZG I.flatten.toArray c)->(∀b o,s.heap.get? b=some o->u.get? b=some o)->Q (.ref l) { s with heap:=u,toks:=tk }):
  wpAny (model prog w) A (call (.builtin "sum") [.ref p,.ref q]) Q E s:=by
 refine call_function_tree PySem.F.kind_sum PySem.F.plain_sum PySem.F.entry_sum (DR _ _) ?_;refine cz (wpAny_of_eq (show Builtin.Builtins.bindParams "sum" ["start"] 0 ⟨[.ref q],[]⟩=pure [some (.ref q)] from rfl) ?_)
 refine cz (wpAny_pyIter_list y ?_);refine cz (cA ?_);generalize d:({ cls:=.type "list_iterator",data:=.fields #[.ref p,.int 0 0] }:Obj)=io;have n:(s.heap.push io).get? q=some (ZG #[] P):=af _ U;have K:Shared.TypeIs { s with heap:=s.heap.push io } (.ref q) "list":=⟨_,n,rfl⟩
 refine cz (cz (cz (wpAny_isInstance K sub_list_str ?_)));refine cA (cz (cz (wpAny_isInstance K sub_list_bytes ?_)));refine cA (cz (cz (wpAny_isInstance K sub_list_bytearray ?_)));refine cA (cA ?_);refine cz (wpAny_newObj_type ?_);have g:p<s.heap.objs.size:=by obtain⟨o,e,_⟩:=y;exact aG e
 have f:=aG U;have ltI:s.heap.objs.size<(s.heap.push io).objs.size:=by rw[(bj ..)];exact bz _
 have L:∀b,b<s.heap.objs.size->b<(s.heap.push io).objs.size:=λb J=>lt_trans J ltI;have W:=(Walks.list (prog:=prog) (w:=w) (A:=A.in1) (by simp[hh]) s.heap.objs.size p (aM g) (a.map Value.ref).toArray).toS
 have N:(a.map Value.ref).toArray.size=a.length:=by simp
 rw[N]at W;have M:(s.heap.push io).objs.size∉[s.heap.objs.size,p]:=λhm=>by
  rcases cB.mp hm with z|hm
  ·exact br ltI z
  ·exact br (L p g) (cG.mp hm)
 have t:∀i,i<a.length->a.getD i 0<s.heap.objs.size:=λi hi=>by obtain⟨c,e⟩:=X i hi;exact aG e
 have H:((List.range' 0 a.length).map λj=>I.getD j []).flatten=I.flatten:=by
  congr 1
  rw[hlen]
  apply bg
  ·simp
  ·intro i h1 h2
   simp[ae,aa h2]
 refine cA ⟨plainId_quiet PySem.F.plain_sum_loop _,D4 W (s.heap.push io).objs.size s.heap.objs.size M (bJ ltI) (λi=>a.getD i 0) (λi=>I.getD i []) (λi v e=>?_) (λi hi=>⟨aM (L _ (t i hi)),λhm=>?_⟩) (λb J=>?_)
  a.length 0 _ q 0 P [] (by lia) (bR _) ⟨⟨io,af _ (ay _ (by rw[<- d];rfl)),by rw[<- d],by rw[<- d];rfl⟩,(y.push _).push _⟩ (ay _ rfl) (aM (L q f)) (λhm=>?_) (af _ n) (λj _ hj=>?_) ?_ λZ Y c' hm r B=>?_⟩
 ·have hi:=by
   have:=(Array.getElem?_eq_some_iff.mp e).1
   simpa using this
  have x:(a.map Value.ref)[i]? =some v:=by simpa using e
  rw[ar,aa hi]at x;rw[ae,aa hi];exact(aB x).symm
 ·exact aM (t i hi) (cG.mp hm)
 ·rw[cG.mp J];exact ltI
 ·exact aM f (cG.mp hm)
 ·obtain⟨c,e⟩:=X j hj
  exact⟨c,af _ (af _ e)⟩
 ·rw[nil_append,H];exact hz
 ·rw[nil_append,H]at r
  have hB:s.heap.objs.size<=Y:=by
   rcases B with ⟨h0,_⟩|h0
   ·exact absurd (List.length_eq_zero_iff.mp h0) C
   ·exact h0
  obtain⟨u,g',d',T,os'⟩:=Z;have e1:=hm.gens;have x:=hm.drawn;have e3:=hm.os;subst e1 x e3;refine h u T Y c' hB r λb o e=>hm.heap b o (λD=>?_) (af _ (af _ e));have S:=aG e;rcases cB.mp D with z|z
  ·exact aM (L b S) z
  ·exact aM S (cG.mp z)
end
section
variable {K:Frag}
def MU (K:Frag):List V->Hp->VK->Prop:=λx H Q=>∃(p q:Addr) (ls:List (Addr×List V)),x=[.ref p,.ref q]/\H p=some (.lst (ls.map λl=>V.ref l.1))/\H q=some (.lst [])/\(∀l∈ls,H l.1=some (.lst l.2))/\ls≠[]/\(ls.map (·.2)).flatten.length<=zM/\
 ∀l,H l=none->Q (.ref l) (upd H l (.lst (ls.map (·.2)).flatten))
theorem P7:∀{L:List (Addr×List V)}{u:b0},Vals (L.map λl=>V.ref l.1) u->u=(L.map (·.1)).map Value.ref
 |[],_,h=>by cases h;rfl|l::L,_,h=>by
  cases h with|cons r t=>cases r;rw[P7 t];rfl
def Cd (S:X.calm=true):jU X (.builtin "sum") (MU X.K):=by
 intro n9 s σ H xs us Q I r h;obtain⟨p,q,ls,rfl,M,J,N,t,z,k⟩:=h;obtain⟨u,v,rfl,ru,w⟩:=Vals.two r;cases ru;cases w;obtain⟨_,C,np,A,_,T⟩:=I.lstM M;obtain⟨_,j,Y,y,Z,eq⟩:=I.lstM J;have d:j=[]:=by cases y;rfl
 subst d;have f:=P7 A;subst f;have hex:∀L:List (Addr×List V),(∀l∈L,H l.1=some (.lst l.2))->∃a:List (b0),a.length=L.length/\(∀i,i<L.length->∃c,s.heap.get? ((L.map (·.1)).getD i 0)=some (ZG (a.getD i []).toArray c))/\Vals (L.map (·.2)).flatten a.flatten:=by
  intro L
  induction L with
  |nil=>intro _;exact⟨[],rfl,λi hi=>absurd hi (bO _),.nil⟩|cons l L D=>
   intro hm;obtain⟨a,h1,h2,g⟩:=D λx E=>hm x (ao _ E);obtain⟨_,it,n,B,_,U⟩:=I.lstM (hm l (au ..));refine⟨it::a,by simp[h1],λi hi=>?_,?_⟩
   ·cases i with|zero=>exact⟨n,U⟩|succ i=>exact h2 i (by simpa using hi)
   ·rw[a5,a3,a3]
    exact B.append g
 obtain⟨a,h1,h2,g⟩:=hex ls N;refine D1 (I.ok.hd S) ⟨_,T,rfl,np,rfl⟩ eq (by simp[h1]) (λi hi=>h2 i (by simpa using hi)) (λe=>t (List.map_eq_nil_iff.mp e)) (by rw[g.length.symm];exact Qp z) λh' tk l c b P kp=>?_
 exact⟨.ref l,_,I.laid (o:=.lst (ls.map (·.2)).flatten) kp b ⟨Qp z,a.flatten,c,g,P⟩,rfl,k _ (I.hok.fresh b)⟩
noncomputable def gK (A:Hx):List W->Option (List (List W))
 |[]=>some []|.ref k::us=>match A[k]? with|some (.lst ws)=>(gK A us).map (ws::·)|_=>none
 |_::_=>none
def Jk:W->W->Hx->R W:=λx y A=>match x,y with
 |.ref n,.ref k=>match A[n]?,A[k]? with
  |some (.lst us),some (.lst [])=>match gK A us with|some w=>if us≠[]/\w.flatten.length<=zM then .ok (.ref A.length) (A++[.lst w.flatten]) else .bad|none=>.bad
  |_,_=>.bad
 |_,_=>.bad
def iZ:∀x y A,qE (Jk x y A):=λx y A=>by
 unfold Jk
 split
 ·split
  ·split
   ·exact ZZ jL qP
   ·exact qP
  ·exact qP
 ·exact qP
theorem zB.app:∀{s u:List W}{x y:List V},zB K φ H s x->zB K φ H u y->zB K φ H (s++u) (x++y)
 |[],_,_,_,h,h2=>by cases h;exact h2|w::s,_,_,_,⟨v,r,e,h,t⟩,h2=>by subst e;exact⟨v,_,rfl,h,zB.app t h2⟩
theorem R7 (S:zJ K φ A H):∀{U:List W}{w:List (List W)}{s:List V},gK A U=some w->zB K φ H U s->∃ls:List (Addr×List V),s=ls.map (λl=>V.ref l.1)/\(∀l∈ls,H l.1=some (.lst l.2))/\zB K φ H w.flatten (ls.map (·.2)).flatten/\ls.length=U.length
 |[],_,_,e,h=>by cases e;cases h;exact⟨[],rfl,λl a=>(by cases a),rfl,rfl⟩|u::U,w,_,e,⟨v,r,j,h,t⟩=>by
  subst j;cases u with
  |ref k=>
   unfold gK at e;cases E:A[k]? with
   |none=>rw[E]at e;cases e|some o=>cases o with
    |lst q=>
     rw[E]at e;dsimp only at e;cases b:gK A U with
     |none=>rw[b]at e;cases e|some c=>
      rw[b]at e;cases e;obtain⟨p,x,rfl,_,f,d⟩:=S.lst h E;obtain⟨ls,rfl,n,i,g⟩:=R7 S b t;refine⟨(p,x)::ls,rfl,λl a=>?_,zB.app d i,by simp[g]⟩
      rcases cB.mp a with rfl|a
      ·exact f
      ·exact n l a
    |_=>rw[E]at e;cases e
  |_=>cases e
def Bj:yi K (λx y=>MU K [x,y]) Jk:=λJ A H x y u v Q S g q p=>by
 unfold Jk at p;cases u with
 |ref n=>cases v with
  |ref k=>
   dsimp only at p;cases E:A[n]? with
   |none=>rw[E]at p;exact p.elim|some o=>cases o with
    |lst U=>
     cases a:A[k]? with
     |none=>rw[E,a]at p;exact p.elim|some j=>cases j with
      |lst Z=>cases Z with
       |nil=>
        rw[E,a]at p;dsimp only at p;cases b:gK A U with
        |none=>rw[b]at p;exact p.elim|some w=>
         rw[b]at p;dsimp only at p
         by_cases h:U≠[]/\w.flatten.length<=zM
         ·rw[aj h]at p
          obtain⟨i,X,rfl,_,t,f⟩:=S.lst g E;obtain⟨P,Y,rfl,_,s,r⟩:=S.lst q a;cases r;obtain⟨L,rfl,C,d,c⟩:=R7 S b f;refine⟨i,P,L,rfl,t,s,C,λe=>?_,by rw[<- d.length];exact h.2,λl z=>?_⟩
          ·rw[e]at c
           exact h.1 (List.length_eq_zero_iff.mp c.symm)
          ·obtain⟨I,D,B⟩:=Je S z d
           exact p _ _ _ I D B
         ·rw[av h]at p;exact p.elim
       |cons _ _=>rw[E,a]at p;exact p.elim
      |_=>rw[E,a]at p;exact p.elim
    |_=>rw[E]at p;exact p.elim
  |_=>exact p.elim
 |_=>cases v<;>exact p.elim
variable {a b:Expr}{ma mb:Ev}
def i0 (t:TA):TE:=λa H Q=>t a H λv h=>∃i j:Int,v=[.int i,.int j]/\∀p,h p=none->Q (.ref p) (upd h p (.rng i j))
def CH {T:TA}(g:Gl X "range")(x:X.mg "range"=none)(l:PA X [a,b] T)(f:starEach [a,b] X.env=[(false,eval a X.env),(false,eval b X.env)])(c:starEach [b] X.env=[(false,eval b X.env)]):PE X (.Call (.Name "range" p) [a,b] [] og) (i0 T):=by
 intro P s w H Q I h;refine Call_ (ZV I g x boot_range (PyProof.Rows.callWith_type1 (zT (l og P s w H _ I h) λU S ⟨y,z,d,r,e⟩=>?_) (by rw[f,c]) (by rw[c];rfl)))
 obtain⟨i,j,rfl,q⟩:=e;obtain⟨u,v,rfl,⟨t,rfl⟩,⟨n,rfl⟩⟩:=Vals.two r;refine call_range_2 ⟨.ref _,_,d.laid (λb o E=>af _ E) (ax _) ?_,rfl,q _ (d.hok.fresh (ax _))⟩;exact⟨_,_,_,ay _ rfl⟩
noncomputable def Wb (l:Int)(n:Nat):List V:=(List.range n).map λ(i:Nat)=>V.int (l+i)
def FX (x:X.calm=true):jU X (.type "list") (λxs H Q=>∃(r:Addr) (i j:Int),xs=[.ref r]/\H r=some (.rng i j)/\(-(2 ^ 62)<=i/\i<2 ^ 62)/\(-(2 ^ 62)<=j/\j<2 ^ 62)/\(j-i).toNat<=sizeLine/\∀l,H l=none->Q (.ref l) (upd H l (.lst (Wb i (j-i).toNat)))):=by
 intro P s N H xs U Q I r h;obtain⟨p,i,j,rfl,o,⟨a1,Z⟩,⟨y,B⟩,z,q⟩:=h;obtain⟨u,rfl,ru⟩:=vals1 r;cases ru;obtain⟨K,T,J,w⟩:=I.hok p _ o;have A:=sizeLine_eq;refine PySem.call_list_range (n:=(j-i).toNat) (I.ok.hd x) (show IsRange s.heap p i j 1 K T J from w) (small_one (by lia) (by lia) y B) (by rw[rangeSize_one];split<;>lia) (by lia) λD Y E C L S ⟨M,d⟩=>?_
 refine⟨.ref s.heap.objs.size,_,I.laid L (ax _) ?_,rfl,q _ (I.hok.fresh (ax _))⟩;refine⟨by unfold Wb;simpa using z,E.toList,C,?_,by simpa using S⟩
 have a:∀(l:b0)(k:Nat),(∀(m:Nat) v,l[m]? =some v->∃t,v=.int (i+((k+m:Nat):Int)) t)->Vals ((List.range' k l.length).map λ(m:Nat)=>V.int (i+(m:Int))) l:=by
  intro l
  induction l with
  |nil=>intro k _;exact .nil|cons v l g=>
   intro k e;refine .cons ?_ (g (k+1) λm f a=>?_)
   ·obtain⟨t,rfl⟩:=e 0 v rfl
    exact⟨t,rfl⟩
   ·obtain⟨t,rfl⟩:=e (m+1) f (by simpa using a)
    exact⟨t,by first|rfl|(congr 1<;>lia)|(simp;lia)⟩
 have b:E.toList.length=(j-i).toNat:=by simpa using M
 have:=a E.toList 0 λm v c=>by
  obtain⟨t,rfl⟩:=d m v (by simpa using c)
  exact⟨t,by first|rfl|(congr 1<;>lia)|(simp;lia)⟩
 rw[b]at this;unfold Wb;rw[range_eq_range'];exact this
def GW (c M:Ev):Ev:=λb A=>(c b A).bind λx d=>(M b d).bind λy a=>match x,y with|.int i,.int j=>if jA i&&(jA j&&decide ((j-i).toNat<=zM)) then .ok (.ref a.length) (a++[.lst ((List.range (j-i).toNat).map λ(k:Nat)=>W.int (i+k))]) else .bad|_,_=>.bad
variable {prog:Program}{A:Around}
def L8 {t sl:Addr}{l v:Value}{L i:cm}(H:IsTup s.heap t items)(c:s.heap.IsSliceOf sl l v .none)(p:IsPart l L)(P:IsPart v i)
  (e:HT.qI items.size 0 L=0/\HT.qI items.size items.size i=items.size)(h:Q (.ref t) s):wpAny (model prog w) A (getItem (.ref t) (.ref sl)) Q E s:=by
 obtain⟨o,a,b,d⟩:=id c;unfold getItem
 try with_reducible refine wpAny_holding ?_
 refine cz (wpAny_sequenceKey H.typeIs (by decide) ?_)
 refine cz (wpAny_callSpecial?_slot H.typeIs PyProof.Rows.slot_tuple_getitem
  (wpAny_call_entry PyProof.Rows.slot_tuple_getitem H.typeIs PyProof.Rows.entry_tuple_getitem ?_ (PyProof.Rows.args_tuple_getitem _ _)))
 show wpAny _ _ (Builtin.Tuple.tupleItemsOf (.ref t) >>= _) _ _ s;refine cz (PyProof.Rows.tupleItemsOf_ H ?_);refine cz (wpAny_typeOf (⟨o,a,b⟩) ?_);refine cz (HT.SK c p P ?_);show wpAny _ _ (if (((HT.qI items.size 0 L:Nat):Int)==0&&(1:Int)==1&&(HT.qI items.size items.size i-HT.qI items.size 0 L)==items.size)=true then _ else _) _ _ s;rw[aj (by rw[e.1,e.2];simp)]
 refine cz (cz (wpAny_typeOf H.typeIs (cA ?_)));refine cz (wpAny_rule ?_)
 first
  |exact cA ⟨_,rfl,cA h⟩
end
section
variable {a:Expr}{m:Ev}{lo hi:Option Expr}{K:Frag}
def i3 (K:Frag):V->Option Int->Option Int->Hp->VK->Prop:=λx l h H Q=>∃a X,x=.ref a/\qy K H a X/\
 ((HT.qI X.length 0 l=0/\HT.qI X.length X.length h=X.length)->Q (.ref a) H)/\
 (¬(HT.qI X.length 0 l=0/\HT.qI X.length X.length h=X.length)->∀p,H p=none->Q (.ref p) (upd H p (.tup (Y6 X l h))))
def AR:Sg X (i3 X.K):=by
 intro P s o H x v l u L j sl Q I b d p g h;obtain⟨a,f,rfl,c,e,q⟩:=h
 by_cases w:HT.qI f.length 0 L=0/\HT.qI f.length f.length j=f.length
 ·cases b
  obtain⟨i,r,t,z⟩:=I.tuple c;have n:i.toArray.size=f.length:=by rw[aD];exact r.length.symm
  exact⟨"tuple",_,PyProof.Rows.slot_tuple_getitem.lookup,t.typeIs,L8 t d p g (by rw[n];exact w) ⟨.ref a,H,I,rfl,e w⟩⟩
 ·exact el P s o H _ v l u L j sl Q I b d p g ⟨a,f,rfl,c,w,q w⟩
abbrev Po:=En->Hx->R (cm)
noncomputable def yo:Po:=λ_ A=>.ok none A
noncomputable def jY (m:Ev):Po:=λa A=>(m a A).bind λw b=>match w with|.int i=>.ok (some i) b|_=>.bad
noncomputable def kM (w:List W)(l h:cm):List W:=(w.drop (HT.qI w.length 0 l)).take (HT.qI w.length w.length h-HT.qI w.length 0 l)
def j7 (m:Ev)(p P:Po):Ev:=λc A=>(m c A).bind λw d=>(p c d).bind λl b=>(P c b).bind λu a=>match w with|.tup s=>.ok (.tup (kM s l u)) a|_=>.bad
inductive MP (K:Frag)(xr:XR)(p:Po)(σ:St)(H:Hp)(Q:Option Int->Hp->Prop):Prop
 |mk (φ:b8) (A:Hx) (ρ:En) (S:zJ K φ A H) (re:RE K φ H ρ σ) (h:(p ρ A).post (λo A1=>∀o5 H1,Le K φ H o5 H1->zJ K o5 A1 H1->Q o H1) (EB K φ H xr))
def tP (K:Frag)(x:XR)(p:Po):TO:=λa H Q=>MP K x p a H Q
def SP (X:Cx)(x:XR)(e:Option Expr)(p:Po):Prop:=PO X e (tP X.K x p)
def PO.imp {e:Option Expr}{t T:TO}(h:PO X e t)(i:∀σ H Q,T σ H Q->t σ H Q):PO X e T:=λp s σ H Q I w=>h p s σ H Q I (i σ H Q w)
def Mf (b:SE X xr e m):SP X xr (some e) (jY m):=PO.imp (eg b) λg H Q ⟨f,A,j,S,r,h⟩=>by
 refine tM.go S r (zW.mp h) λw n a d v c l s q=>?_;cases w with|int i=>obtain rfl:=q;exact⟨i,rfl,c a d l s⟩|_=>exact c.elim
end
def Bv (x:Array Value):((List.range x.size).filterMap λ(k:Nat)=>x[(((x.size:Int)-1)+(k:Int) * (-1)).toNat]?).toArray=x.toList.reverse.toArray:=by
 congr 1
 have e:∀k,k<x.size->x[(((x.size:Int)-1)+(k:Int) * (-1)).toNat]? =some (x.toList.reverse.getD k .none):=λk h=>by
  have b:(((x.size:Int)-1)+(k:Int) * (-1)).toNat=x.size-1-k:=by lia
  rw[b,ae,List.getElem?_reverse (by simpa using h),bE,aT,Array.getElem?_eq_getElem (by lia)]
  rfl
 have E:=by
  have a:∀l:cb,(∀k∈l,k<x.size)->(l.filterMap λ(k:Nat)=>x[(((x.size:Int)-1)+(k:Int) * (-1)).toNat]?)=l.map λk=>x.toList.reverse.getD k .none:=by
   intro l
   induction l with
   |nil=>intro _;rfl|cons k l I=>
    intro h;rw[bM,e k (h k (au ..)),a5,I λj H=>h j (ao _ H)]
  exact a _ λk h=>cE.mp h
 rw[E]
 apply bg
 ·simp
 ·intro i b c
  rw[List.getElem_map,List.getElem_range,ae,aa c]
  rfl
section
variable {K:Frag}
def Fq (h:Vals xs us):Vals xs.reverse us.reverse:=by
 induction h with|nil=>exact .nil|cons r t i=>rw[reverse_cons,reverse_cons];exact i.append (.cons r .nil)
theorem zB.rev:∀{s:List W}{a:List V},zB K φ H s a->zB K φ H s.reverse a.reverse
 |[],_,h=>by cases h;rfl|w::s,_,⟨v,r,e,h,t⟩=>by subst e;rw[reverse_cons,reverse_cons];exact zB.app (zB.rev t) ⟨v,[],rfl,h,rfl⟩
end
noncomputable def Xq (_ j:Int):Bool:=decide (0<j)&&decide (j<1152921504606846976)
def Mt (i j:Int):Prop:=0<j/\j<1152921504606846976
def CG (i j:Int)(h:Xq i j=true):Mt i j:=by unfold Xq at h;rw[ak]at h;exact⟨of_decide_eq_true h.1,of_decide_eq_true h.2⟩
def AA:qM X (binaryOp .FloorDiv) (rI Mt λi j=>.int (i/j)):=XW λi j _ _ _ _ _ h q=>by
 have a:=h.1;have H:=h.2;refine floordiv_int (by lia) (by rw[Int.fdiv_eq_ediv_of_nonneg i (by lia)];exact q) (.inl (PyProof.noPylong_of_log2 ?_))
 have:j.natAbs.log2<60:=(Nat.log2_lt (by lia)).mpr (by lia)
 lia
def Xg:=QS Xq λi j=>.int (i/j)
def Wl (e:Expr):Expr:=match e with|.Compare l _ _ _=>l|_=>Jh
end Mi
namespace PySem.SeqAt
open PySem
def IU {A:Around}{a:Type}(f:Nat->a->Sem (ForInStep a))(I:List Nat->a->Shared->Prop)(Q:a->Shared->Prop)
  (turn:∀x t b s,I (x::t) b s->wpAny M A (f x b) (λr S=>match r with|.yield b'=>I t b' S|.done b'=>Q b' S) E s)
  (n:∀b s,I [] b s->Q b s)(r:Std.Legacy.Range)(b:a)(h:I (List.range' r.start r.size r.step) b s):wpAny M A (forIn r b f) Q E s:=by
 rw[Std.Legacy.Range.forIn_eq_forIn_range'];exact wpAny_forIn_list f I Q turn n _ b h
def HA (l:Addr)(I:Array Value)(n:Nat)(M:cx)(sl:Array (cc))(x:Value)(e:Value->Bool)(j:Nat)(D:j<I.size)
  (K:e I[j]=true)(o:∀m (N:m<I.size),m<j->e I[m]=false):
  Meets (Builtin.«tuple.index» ⟨[.ref l,x],[]⟩)
   (λA R s=>s.heap.get? l=some { cls:=.type "tuple",dict:=M,data:=.seq I n,slots:=sl }/\(∀y,y∈I->EqAt A.in1 s y x (e y))/\R (.ok (.ret (.int j s.toks))) { s with toks:=s.toks+1 }):=
 .of_wp λP w A R s h=>by
  obtain⟨p,g,d,T,J⟩:=s;obtain⟨t,L,h⟩:=h
  wp_walk using wpAny_loadPart' t,IU _ (λE b S=>b.1=none/\S=⟨p,g,d,T,J⟩/\∃i,i<=j/\E=List.range' i (I.size-i)) _
  case turn=>
   rintro i E ⟨C,B⟩ S ⟨z,rfl,k,u,r⟩
   have H:k<I.size:=by lia
   have f:I.size-k=(I.size-(k+1))+1:=by lia
   rw[f,range'_succ]at r;injection r with c a
   subst c a;have v:I[i]? =some I[i]:=by simp[H]
   rw[v];refine cz (L _ (Array.getElem_mem H) P w _ _ ?_)
   by_cases q:i=j
   ·subst q
    wp_walk
    exact⟨_,rfl,h⟩
   ·rw[o i H (by lia)]
    wp_walk
    exact⟨rfl,rfl,i+1,by lia,rfl⟩
  case n=>
   rintro⟨C,B⟩ S ⟨z,rfl,k,u,r⟩
   have:=congrArg List.length r
   simp at this;lia
  case h=>
   exact⟨rfl,rfl,0,bR _,by simp[Std.Legacy.Range.size]⟩
end PySem.SeqAt
namespace Mi
open PySem PySem.Spec PyProof.Rows L2
def Jl (y:W):List W->Option Nat
 |[]=>none|w::ws=>if QP w y then some 0 else(Jl y ws).map (· + 1)
def YH:W->W->Hx->R W:=λx y A=>match x with
 |.tup w=>if ym y&&w.all ym then(match Jl y w with|some j=>.ok (.int (j:Int)) A|none=>.bad) else .bad
 |_=>.bad
section
variable {K:Frag}{a:Expr}
def Wf (y:V)(x:List V)(j:Nat):Prop:=∃h:j<x.length,wH x[j] y=true/\∀m (hm:m<x.length),m<j->wH x[m] y=false
theorem Wf.succ {y x:V}(h:Wf y xs j)(H:wH x y=false):Wf y (x::xs) (j+1):=by
 obtain⟨d,c,a⟩:=h;refine⟨Nat.succ_lt_succ d,c,λm b z=>?_⟩;cases m with|zero=>exact H|succ m=>exact a m (bp b) (bp z)
theorem PD {x:W}(q:RV K φ H x v)(e:ym x=true):∀{X:List W}{s:List V}{j:Nat},zB K φ H X s->X.all ym=true->Jl x X=some j->s.all wB=true/\Wf v s j
 |w::ws,_,j,⟨y,r,c,h,t⟩,h2,a=>by
  subst c;rw[List.all_cons,ak]at h2;have E:=VG h q h2.1 e;have a:(if QP w x then some 0 else(Jl x ws).map (· + 1))=some j:=a;refine⟨by rw[List.all_cons,Kq h h2.1,((R4 q e t h2.2).1)];rfl,?_⟩
  by_cases d:QP w x=true
  ·rw[aj d]at a
   cases a;exact⟨Nat.zero_lt_succ _,by show wH y v=true;rw[E];exact d,λm _ z=>absurd z (bO _)⟩
  ·rw[av d]at a
   cases b:Jl x ws with
   |none=>rw[b]at a;cases a|some k=>
    rw[b]at a;cases a;exact(PD q e t h2.2 b).2.succ (by rw[E];exact Bool.eq_false_iff.mpr d)
def i4 (K:Frag):V->List V->Hp->VK->Prop:=λx v H Q=>∃a X y j,x=.ref a/\v=[y]/\qy K H a X/\wB y=true/\X.all wB=true/\Wf y X j/\Q (.int j) H
theorem Uk {y:V}:∀{x:List V}{u:b0},Vals x u->x.all wB=true->∀m (h:m<x.length) (H:m<u.length),kR y u[m]=wH x[m] y
 |_,_,.cons r t,hf,m,h,H=>by
  rw[List.all_cons,ak]at hf;cases m with|zero=>exact Uw r hf.1|succ m=>exact Uk t hf.2 m (bp h) (bp H)
def Cn:WB X "tuple.index" (i4 X.K):=by
 intro P s L H x N v U Q I b c h;obtain⟨a,M,y,j,rfl,rfl,t,p,f,⟨e,d,J⟩,q⟩:=h;cases b;obtain⟨u,rfl,ru⟩:=c.one;obtain⟨i,r,B,_⟩:=I.tuple t;obtain⟨⟨E,D,data,sl⟩,o,l,n,C⟩:=id B;subst l C;have w:=r.length;refine call_meets F.slot_tuple_index ⟨_,o,rfl⟩ F.entry_tuple_index (F.args_tuple_index_2 _ _) (SeqAt.HA a i.toArray n D sl u (kR y) j (by simp;lia) ?_ ?_) ⟨o,λz g=>Yy ru p r f z (by simpa using g),⟨.int _,H,I.tok _,⟨_,rfl⟩,q⟩⟩
 ·have:=Uk (y:=y) r f j e (by lia)
  rw[d]at this;simpa using this
 ·intro m A z
  have:=Uk (y:=y) r f m (by simp at A;lia) (by simpa using A)
  rw[J m (by simp at A;lia) z]at this
  simpa using this
variable {prog:Program}{A:Around}{id:String}{b:Builtin}{oA:b0}{kw:List (Str×Value)}
theorem i5 (a:builtinKind id=none)(p:plainId id=true)(d:entryFor table id=some b)(h:argsOk id ⟨oA,kw⟩)
  (c:wpAny (model prog w) A.in1 (b ⟨oA,kw⟩) (λn S=>match n with
   |.done f=>(match (Except.ok f:Result) with|.ok (.ret v)=>Q v S|.ok _=>False|.error e=>E e S)
   |.again c'=>c'.quiet=true/\codeAny (model prog w) A c' (λr S=>match r with
    |.ok (.ret v)=>Q v S|.ok _=>False|.error e=>E e S) S) E s):wpAny (model prog w) A (call (.builtin id) oA kw) Q E s:=by
 refine wpAny_call (codeAny_call_builtin p d ?_);have e:checkBuiltinCall id ⟨oA,kw⟩=pure ():=by
  unfold argsOk at h;unfold checkBuiltinCall;rw[a];generalize splitId id=q;cases H:Manifest.signature? id with
  |none=>cases q<;>rfl|some i=>
   rw[H]at h;cases q<;>exact h
 rw[e];exact cA c
def DN (x d:Value):argsOk "min" ⟨[x],[("default",d)]⟩:=by
 unfold argsOk
 rfl
end
section
variable {prog:Program}{A:Around}{I S:Addr}{wr:b8}{P:Nat->Value->Prop}{St:Nat->Heap->Prop}
def Dr {R:Result->Shared->Prop}{d:Value}(W:Walks prog w A.in1 I fp wr n P St){B:Nat->Nat->Bool}{U:Heap->Prop}(M:M0 prog w A S wr P B U)(C:S∉fp):
  ∀(k j:Nat)(s:Shared)(v:Value)(c:Nat),j+1+k=n->St (j+1) s.heap->U s.heap->P (argBest B j) v->s.heap.get? S=some { cls:=.type "list",dict:=none,data:=.seq #[v,v] c,slots:=#[] }->
   (∀v r tk,P (argBest B (n-1)) v->(∀b o,b∉wr->b≠S->s.heap.get? b=some o->r.get? b=some o)->R (.ok (.ret v)) { s with heap:=r,toks:=tk })->
   codeAny (model prog w) A (.builtin "min.loop" ⟨[.ref I,.none,.ref S],[("default",d)]⟩) R s:=by
 have y:=λh=>C (W.sub _ h);intro k
 induction k with
 |zero=>
  intro j s v c Q Y hi E D J;subst Q;refine codeAny_builtin F.entry_min_loop ?_;refine cz (wpAny_seqItems D rfl ?_);refine cz (wpAny_tryCatch (W.done s _ _ Y λr tk l=>?_));have H:=l S _ y D;refine cz ?_;exact wpAny_updateSeq H rfl (cz (wpAny_letGo (cA (J v _ tk E λb o f a e=>(aR _ _ (Ne.symm a)).trans (l b o f e)))))
 |succ k N=>
  intro j s v c Q Y hi E D J;refine codeAny_builtin F.entry_min_loop ?_;refine cz (wpAny_seqItems D rfl ?_);refine cz (wpAny_tryCatch (W.item (j+1) s _ _ (by lia) Y λu r tk Z x l=>?_))
  have H:=l S _ y D;have p:=M.keep _ _ hi λb o f _ e=>l b o f e;refine cz (m:=tryCatch (holding [u,u] (richCompare .Lt u v >>= _)) _) (wpAny_tryCatch (wpAny_holding (cz (M.less (j+1) (argBest B j) u v _ _ _ p Z E ?_))));refine cz (wpAny_holding (wpAny_truthy_bool ?_));refine cz (wpAny_letGo (cA ?_));have K:argBest B (j+1)=if B (j+1) (argBest B j)=true then j+1 else argBest B j:=rfl;cases T:B (j+1) (argBest B j) with
  |true=>
   rw[T,aj rfl]at K;refine cz ?_;refine wpAny_updateSeq H rfl (cz (wpAny_letGo ?_));have up:∀b o,b≠S->r.get? b=some o->(r.update S (Obj.mapSeq λ_=>#[u,u])).get? b=some o:=λb o a e=>(aR _ _ (Ne.symm a)).trans e;refine cA ⟨plainId_quiet F.plain_min_loop _,N (j+1) _ u _ (by lia) (W.frame _ _ _ x λb X o e=>up b o (λz=>C (z ▸ X)) e) (M.keep _ _ p λb o _ a e=>up b o a e) (by rw[K];exact Z) (a4 _ H rfl) λL q t g i=>?_⟩
   exact J L q t g λb o f a e=>i b o f a (up b o a (l b o f e))
  |false=>
   rw[T,av aP]at K;refine cz (wpAny_letGo ?_);refine cA ⟨plainId_quiet F.plain_min_loop _,N (j+1) _ v c (by lia) x p (by rw[K];exact E) H λL q t g i=>?_⟩
   exact J L q t g λb o f a e=>i b o f a (l b o f e)
def DO {x d:Value}
  (h:wpAny (model prog w) A.in1 (pyIter x) (λX L=>∃I l T n P St q y,X=.ref I/\Walks prog w A.in1 I l T n P St/\St 0 L.heap/\(∀b∈l,b<L.heap.objs.size)/\y (L.heap.push { cls:=.type "list",data:=.seq #[] })/\M0 prog w A L.heap.objs.size T P q y/\
   ∀v a tk,((n=0/\v=d)∨(0<n/\P (argBest q (n-1)) v))->(∀b o,b∉T->L.heap.get? b=some o->a.get? b=some o)->Q v { L with heap:=a,toks:=tk }) E s):
  wpAny (model prog w) A (call (.builtin "min") [x] [("default",d)]) Q E s:=by
 refine i5 F.kind_min F.plain_min F.entry_min (DN x d) ?_;refine cz (wpAny_of_eq (show Builtin.Builtins.bindParams "min" ["key","default"] 0 ⟨[],[("default",d)]⟩=pure [none,some d] from rfl) ?_)
 refine cz (cA ?_);refine cz (wpAny_mono h (λX L h2=>?_) λ_ _ e=>e);obtain⟨I,l,T,n,P,St,q,y,rfl,W,U,p,hi,M,D⟩:=h2;refine cz (wpAny_newObj_type ?_);have H:=λZ=>aZ _ (p _ Z);refine cA ⟨plainId_quiet F.plain_min_loop _,?_⟩;refine codeAny_builtin F.entry_min_loop ?_;have C:(L.heap.push { cls:=.type "list",data:=.seq #[] }).get? L.heap.objs.size=some { cls:=.type "list",data:=.seq #[] }:=ay _ rfl;refine cz (wpAny_seqItems C rfl ?_)
 by_cases N:n=0
 ·subst N
  refine cz (wpAny_tryCatch (W.done _ _ _ (W.frame _ _ _ U λb _ o e=>af _ e) λa tk c=>?_));refine cz (wpAny_rule (cA ?_));exact D d a tk (.inl ⟨rfl,rfl⟩) λb o B e=>c b o B (af _ e)
 have N:=Nat.pos_of_ne_zero N;refine cz (wpAny_tryCatch (W.item 0 _ _ _ N (W.frame _ _ _ U λb _ o e=>af _ e) λu a tk Y S c=>?_));have f:=c _ _ (λh=>H (W.sub _ h)) C;refine cz (m:=updateSeq L.heap.objs.size (λ_=>#[u,u])) ?_;refine wpAny_updateSeq f rfl ?_;have up:∀b o,b≠L.heap.objs.size->a.get? b=some o->(a.update L.heap.objs.size (Obj.mapSeq λ_=>#[u,u])).get? b=some o:=λb o r e=>(aR _ _ (Ne.symm r)).trans e;refine cA ⟨plainId_quiet F.plain_min_loop _,Dr W M H (n-1) 0 _ u _ (by lia) (W.frame _ _ _ S λb K o e=>up b o (λz=>H (z ▸ K)) e) (M.keep _ _ (M.keep _ _ hi λb o B _ e=>c b o B e) λb o _ r e=>up b o r e) Y (a4 _ f rfl) λJ j t g i=>?_⟩
 exact D J j t (.inr ⟨N,g⟩) λb o B e=>i b o B (aM (aG e)) (up b o (aM (aG e)) (c b o B (af _ e)))
end
noncomputable def wa:List Int->Int->Int
 |[],b=>b|x::xs,b=>wa xs (if x<b then x else b)
def P0 (n:bZ):∀(k:Nat)(H:k<n.length),wa (n.drop (k+1)) (n.getD (argBest (λi j=>decide (n.getD i 0<n.getD j 0)) k) 0)=wa n.tail (n.getD 0 0):=by
 intro k
 induction k with
 |zero=>intro _;rw[show argBest _ 0=0 from rfl,List.drop_one]|succ k I=>
  intro H;rw[<- I (by lia)]
  rw[(a9 H)];have e:n.getD (k+1) 0=n[k+1]:=by rw[ae,aa H];rfl
  show wa _ (n.getD (if decide (n.getD (k+1) 0<n.getD (argBest _ k) 0)=true then k+1 else argBest _ k) 0)=wa _ (if n[k+1]<n.getD (argBest _ k) 0 then n[k+1] else n.getD (argBest _ k) 0);rw[e]
  by_cases h:n[k+1]<n.getD (argBest (λi j=>decide (n.getD i 0<n.getD j 0)) k) 0
  ·rw[aj (by rw[ag];exact h),aj h,e]
  ·rw[av (by rw[ag];exact h),av h]
section
variable {K:Frag}
def Ck (n:X.calm=true):jU X (.builtin "min") (JR X.K (λns=>ns≠[]) λns=>wa ns.tail (ns.getD 0 0)):=by
 intro U s σ H xs us Q I r h;obtain⟨a,ns,rfl,z,f,q⟩:=h;obtain⟨u,rfl,ru⟩:=vals1 r;cases ru;have N:=List.length_pos_iff.mpr f;refine call_min_walk (Kz I n z λd D y Y S s2 c M W st p P=>?_);have e:d.length=ns.length:=by have:=c.length;rw[ah]at this;lia
 refine⟨D,y,Y,_,_,S,λi j=>decide (ns.getD i 0<ns.getD j 0),rfl,W,st,p,by lia,?_,λv x Z l k=>?_⟩
 ·intro i j L J g C E h1 h2 o
  obtain⟨t1,rfl⟩:=ZS c h1;obtain⟨T,rfl⟩:=ZS c h2;exact(PyProof.Rows.lt_int o:wpAny (model X.prog X.w) X.A.in1 (compareOp .Lt (.int (ns.getD i 0) t1) (.int (ns.getD j 0) T)) C E g)
 ·obtain⟨t,rfl⟩:=ZS c l
  rw[e];have b:=P0 ns (ns.length-1) (by lia)
  rw[show ns.length-1+1=ns.length by lia,bH]at b
  have B:ns.getD (argBest (λi j=>decide (ns.getD i 0<ns.getD j 0)) (ns.length-1)) 0=wa ns.tail (ns.getD 0 0):=b;rw[B];exact⟨.int _,H,P x Z k,⟨_,rfl⟩,q⟩
def JN:List W->Hx->R W:=λw A=>match intsOf w with|some (i::is)=>.ok (.int (wa is i)) A|_=>.bad
def AN:∀ws A,qE (JN ws A):=λws A=>by
 unfold JN;split
 ·exact jL
 ·exact qP
def Ac:Qf K (JR K (λns=>ns≠[]) λns=>wa ns.tail (ns.getD 0 0)) JN:=λb A H a y w Q S z r p=>by
 unfold JN at p;cases e:intsOf w with
 |none=>rw[e]at p;exact p.elim|some ns=>cases ns with|nil=>rw[e]at p;exact p.elim|cons i I=>rw[e]at p;exact⟨a,i::I,rfl,Gp z r e,(by intro z;cases z),p b H _ .refl S rfl⟩
def minD (d:Int):List Int->Int
 |[]=>d|n::ns=>wa ns n
def MK (K:Frag)(d:Int):List V->Hp->VK->Prop:=JR K (λ_=>True) (minD d)
def JM (d:Int):List W->Hx->R W:=λw A=>match intsOf w with|some n=>.ok (.int (minD d n)) A|none=>.bad
def i6 {d:Int}:∀ws A,qE (JM d ws A):=λws A=>by
 unfold JM;split
 ·exact jL
 ·exact qP
def CY {d:Int}:Qf K (MK K d) (JM d):=λb A H a y w Q S z r p=>by
 unfold JM at p;cases e:intsOf w with|none=>rw[e]at p;exact p.elim|some n=>rw[e]at p;exact⟨a,n,rfl,Gp z r e,trivial,p b H _ .refl S rfl⟩
def i7 {d:Int}{L kp:Pos}{t:TA}(C:X.calm=true)(hm:X.mg "min"=none)(D:PA X [e] t)(B:Gl X "min")(he:qR e [] X:=by rfl):
  PE X (.Call (.Name "min" p) [e] [⟨some "default",.Constant (.int d) j L,kp⟩] og) (WM (MK X.K d) t):=by
 intro n9 s σ H Q I h;refine wpAny_Call_Name_kw (ZV I B hm (by rfl:bootBuiltins "min"=some (.builtin "min")) ?_ (by decide) (by decide))
 refine callWith_kw (zT (D og n9 s σ H _ I h) λus s1 ⟨vs,H1,P,x,y⟩=>kwAll_cons (wpAny_Constant_int (kwAll_nil ?_))) (by rw[he];rfl) (by rw[he];rfl) rfl rfl
 obtain⟨a,ns,rfl,z,_,q⟩:=y;obtain⟨u,rfl,ru⟩:=vals1 x;cases ru;refine DO (Kz (P.tok _) C z λc U J wr S s2 r hz W st g back=>?_);have e:c.length=ns.length:=by have:=r.length;rw[ah]at this;lia
 refine⟨U,J,wr,_,_,S,λi j=>decide (ns.getD i 0<ns.getD j 0),λ_=>True,rfl,W,st,g,trivial,⟨λ_ _ _ _=>trivial,?_⟩,λv l tk f k=>?_⟩
 ·intro i j vi Z o N Y _ h1 h2 E
  obtain⟨t1,rfl⟩:=ZS r h1;obtain⟨T,rfl⟩:=ZS r h2;exact(PyProof.Rows.lt_int E:wpAny (model X.prog X.w) X.A.in1 (compareOp .Lt (.int (ns.getD i 0) t1) (.int (ns.getD j 0) T)) N Y o)
 ·rcases f with ⟨h0,rfl⟩|⟨h0,f⟩
  ·have:ns=[]:=List.length_eq_zero_iff.mp (by lia)
   subst this;exact⟨.int _,H1,back l tk k,⟨_,rfl⟩,q⟩
  ·obtain⟨t,rfl⟩:=ZS r f
   rw[e];have b:=P0 ns (ns.length-1) (by lia)
   rw[show ns.length-1+1=ns.length by lia,bH]at b
   have M:ns.getD (argBest (λi j=>decide (ns.getD i 0<ns.getD j 0)) (ns.length-1)) 0=minD d ns:=by
    refine Eq.trans b ?_;cases ns with|nil=>exact absurd h0 (by rw[e];exact aZ _)|cons n ns=>rfl
   rw[M];exact⟨.int _,H1,back l tk k,⟨_,rfl⟩,q⟩
variable {prog:Program}{A:Around}
def Ik {t sl:Addr}{T:Tok}(b:IsTup s.heap t items)(f:s.heap.IsSliceOf sl .none .none (.int (-1) T))
  (h:Q (.ref s.heap.objs.size) { s with heap:=s.heap.push { cls:=.type "tuple",data:=.seq items.toList.reverse.toArray } })(z:items.size<=sizeLine):wpAny (model prog w) A (getItem (.ref t) (.ref sl)) Q E s:=by
 obtain⟨o,H,c,a⟩:=id f;have e:=by show items.toList.reverse.toArray.size<=sizeLine;simpa using z
 unfold getItem
 try with_reducible refine wpAny_holding ?_
 refine cz (wpAny_sequenceKey b.typeIs (by decide) ?_)
 refine cz (wpAny_callSpecial?_slot b.typeIs PyProof.Rows.slot_tuple_getitem
  (wpAny_call_entry PyProof.Rows.slot_tuple_getitem b.typeIs PyProof.Rows.entry_tuple_getitem ?_ (PyProof.Rows.args_tuple_getitem _ _)))
 show wpAny _ _ (Builtin.Tuple.tupleItemsOf (.ref t) >>= _) _ _ s;refine cz (PyProof.Rows.tupleItemsOf_ b ?_);refine cz (wpAny_typeOf (⟨o,H,c⟩) ?_);have p:∀{q:Int×Int×Nat->Shared->Prop},q ((items.size:Int)-1,-1,items.size) s->wpAny (model prog w) A.in1 (Builtin.Slice.sliceApplied (.ref sl) (pure (items.size:Int))) q E s:=λ {q} g=>by
  refine cz (cz (wpAny_field H a rfl (cz (wpAny_field H a rfl (cz (wpAny_field H a rfl (cA ?_)))))));have i:Builtin.Slice.slicePlaces ((items.size:Int)-1) (-1) (-1)=items.size:=by
   unfold Builtin.Slice.slicePlaces;rw[av (by decide)]
   by_cases d:items.size=0
   ·rw[d,av (by decide)];rfl
   ·rw[aj (by lia)]
    simp
  show wpAny _ _ (pure ((items.size:Int)-1,(-1:Int),Builtin.Slice.slicePlaces ((items.size:Int)-1) (-1) (-1))) _ _ s;rw[i];exact cA g
 refine cz (p ?_);show wpAny _ _ (if (((items.size:Int)-1==0&&(-1:Int)==1&&items.size==items.size))=true then _ else _) _ _ s;rw[av (by simp),Bv]
 first
  |exact cz (wpAny_newObj_type (cA ⟨_,rfl,cA h⟩) e)
end
section
variable {st:Expr}{m ms:Ev}{te:TE}{ts:TO}{p2:Pos}{K:Frag}
def i8 (K:Frag):V->Hp->VK->Prop:=λx H Q=>∃a X,x=.ref a/\qy K H a X/\∀p,H p=none->Q (.ref p) (upd H p (.tup X.reverse))
def i9 (L:PE X e te)(n:PO X (some st) ts):PE X (.Subscript e (.Slice none none (some st) p2) og) (λσ H Q=>te σ H λx C=>ts σ C λo A=>o=some (-1)/\i8 X.K x A Q):=by
 intro P s σ H Q I h;refine Subscript_ (zT (L P s σ H _ I h) λv E ⟨x,C,w,f,j⟩=>?_);refine wpAny_Slice ?_;refine cA (cA ?_);refine zT (n P E σ C _ w j) λM S ⟨o,y,u,J,g⟩=>?_;obtain⟨rfl,a,D,rfl,l,q⟩:=g;cases f;cases J with
 |int i T=>
  have d:Inv X P σ y { S with heap:=S.heap.push { cls:=.type "slice",data:=.fields #[.none,.none,.int (-1) T] } }:=u.kept λb ob q=>af _ q
  obtain⟨c,r,t,z⟩:=d.tuple l;have B:c.toArray.size=D.length:=by rw[aD];exact r.length.symm
  have p:qS X (getItem (.ref a) (.ref S.heap.objs.size)) (EP X P σ Q) X.xe { S with heap:=S.heap.push { cls:=.type "slice",data:=.fields #[.none,.none,.int (-1) T] } }:=by
   refine Ik t (Heap.IsSliceOf.new ..) ?_ (by rw[B];exact z)
   refine⟨.ref _,_,d.laid (λb ob q=>af _ q) (ax _) ?_,rfl,q _ (d.hok.fresh (ax _))⟩;exact⟨by rw[List.length_reverse];exact z,c.reverse,Fq r,ZY.new _ _⟩
  exact tail_any t.typeIs PyProof.Rows.slot_tuple_getitem.lookup p (by with_unfolding_all rfl)
def Y2 (m M:Ev):Ev:=λb A=>(m b A).bind λw c=>(jY M b c).bind λo a=>match w with|.tup s=>if o=some (-1) then .ok (.tup s.reverse) a else .bad|_=>.bad
end
open PySem.W (KasT kas_rev kas_asc kas_desc kas_tail3 kas_descPart kas_count kas_place kas_bin kas_sort)
def TW (n:Nat)(c:Nat->Nat->Bool):KasT α->(α->Prop)->Prop
 |.ret a,Q=>Q a|.ask i j k,Q=>i<n/\j<n/\TW n c (k (c i j)) Q
theorem TW.bind {b:Type}{c:Nat->Nat->Bool}{f:α->KasT b}{Q:b->Prop}:∀(t:KasT α),TW n c t (λa=>TW n c (f a) Q)->TW n c (t.bind f) Q
 |.ret _,h=>h|.ask i j k,h=>⟨h.1,h.2.1,TW.bind (k (c i j)) h.2.2⟩
section
structure yN (n:Nat)(p:Array Nat):Prop where
 pm:p.Perm (List.range n).toArray
def yN.lt {p:Array Nat}(h:yN n p)(a:0<n)(i:Nat):p.getD i 0<n:=by
 by_cases H:i<p.size
 ·have e:p.getD i 0=p[i]:=by simp[Array.getD,H]
  have:=(Array.perm_iff_toList_perm.mp h.pm).mem_iff.mp (Array.mem_toList_iff.mpr (Array.getElem_mem H))
  rw[e];simpa using this
 ·have e:p.getD i 0=0:=by simp[Array.getD,H]
  rw[e];exact a
def yN.rev {p:Array Nat}(h:yN n p)(i j:Nat):yN n (kas_rev p i j):=⟨(mirror_perm _ _ _ _).trans h.pm⟩
def yN.bub {p:Array Nat}(h:yN n p)(i j:Nat):yN n (bubble p i j):=⟨(bubble_perm _ _ _).trans h.pm⟩
end
open PySem.W (KasT kas_sort kas_ask kat_run kat_snds kat_kind kat_lt kat_cons kat_nil kat_yes kat_no kat_one KatLex KatGo KatTups)
def Tv {d:α}(l:List α):((List.range l.length).map λi=>l.getD i d)=l:=by
 refine bg (by simp) λi a b=>?_
 simp at a;simp[a]
def js (v:b0):(v.toArray.zip v.toArray).map (·.2)=v.toArray:=by
 apply Array.toList_inj.mp
 rw[Array.toList_map];simp only[Array.toList_zip,toList_toArray];exact List.map_snd_zip (ax _)
section
variable {prog:Program}{A:Around}
def jt {b:Bool}{x y:Int}{t u:Tok}{Q:Bool->Shared->Prop}(h:Q (decide (x<y)) s):wpAny (model prog w) A (oneLt' b (.int x t) (.int y u)) Q E s:=by
 cases b with|true=>exact oneLt_int h|false=>exact kat_one _ _ (wpAny_lt_int h)
def JX (h:Heap)(v:Value)(k:bZ):Prop:=∃(a:Addr) (o:Obj) (ot:b0) (n:Nat),v=.ref a/\h.get? a=some o/\o.cls=.type "tuple" /\ o.data=.seq ot.toArray n/\IntsAre ot k
def JX.keep {v:Value}{k:bZ}(t:JX h v k)(K:∀b o,h.get? b=some o->h'.get? b=some o):JX h' v k:=by obtain⟨a,o,i,n,e,f,d,c,H⟩:=t;exact⟨a,o,i,n,e,K _ _ f,d,c,H⟩
inductive wA (h:Heap):List Value->List (bZ)->Prop
 |nil:wA h [] []
 |cons {v:Value} {k:bZ} {vs:b0} {ks:bY} (t:JX h v k) (ne:k≠[]) (r:wA h vs ks):wA h (v::vs) (k::ks)
theorem wA.length:∀{v:b0}{K:bY},wA h v K->v.length=K.length
 |_,_,.nil=>rfl|_,_,.cons _ _ r=>by simp[r.length]
theorem wA.keep (p:∀b o,h.get? b=some o->h'.get? b=some o):∀{v:b0}{K:bY},wA h v K->wA h' v K
 |_,_,.nil=>.nil|_,_,.cons t ne r=>.cons (t.keep p) ne (r.keep p)
theorem wA.at:∀{v:b0}{K:bY}(i:Nat),wA h v K->i<K.length->JX h (v.getD i Value.none) (K.getD i [])
 |_,_,0,.cons t _ _,_=>t|_,_,i+1,.cons _ _ r,hi=>r.at i (by simpa using hi)
theorem wA.firsts:∀{s:b0}{K:bY},wA h s K->∃fs:b0,KatTups h s fs/\fs.length=s.length/\∀v∈fs,∃i t,v=Value.int i t
 |_,_,.nil=>⟨[],trivial,rfl,λv H=>by cases H⟩|_,_,.cons ⟨a,o,I,n,e,h1,h2,c,b⟩ ne r=>by
  obtain⟨fs,t,l,f⟩:=r.firsts;cases b with
  |nil=>exact absurd rfl ne|cons i T q=>
   refine⟨Value.int i T::fs,⟨⟨a,o,_,n,e,h1,h2,c,rfl⟩,t⟩,by simp[l],λv H=>?_⟩
   rcases cB.mp H with rfl|H
   ·exact⟨i,T,rfl⟩
   ·exact f v H
end
noncomputable def WE (k:bZ):W:=.tup (k.map W.int)
def QD:List W->Option (bY)
 |[]=>some []|.tup x::ws=>match intsOf x with|some k=>if k=[] then none else(QD ws).map (k::·)|none=>none
 |_::_=>none
theorem OG:∀{s:List W}{K:bY},QD s=some K->s=K.map WE/\∀k∈K,k≠[]
 |[],_,h=>by cases h;exact⟨rfl,λk a=>by cases a⟩|w::s,K,h=>by
  cases w with
  |tup X=>
   unfold QD at h;cases E:intsOf X with
   |none=>rw[E]at h;cases h|some k=>
    rw[E]at h;dsimp only at h
    by_cases c:k=[]
    ·rw[aj c]at h;cases h
    ·rw[av c]at h
     cases e:QD s with
     |none=>rw[e]at h;cases h|some l=>
      rw[e]at h;cases h;obtain⟨b,A⟩:=OG e;refine⟨by rw[a5,<- b,Gn E];rfl,λx H=>?_⟩
      rcases cB.mp H with rfl|H
      ·exact c
      ·exact A x H
  |_=>cases h
theorem Vals.sel (h:Vals ys us):∀(l:cb),(∀i∈l,i<ys.length)->Vals (l.map λi=>ys.getD i .non) (l.map λi=>us.getD i Value.none)
 |[],_=>.nil|i::l,hi=>by have I:=hi i (au ..);obtain⟨u,E,e⟩:=h.get (aa I);refine .cons ?_ (Vals.sel h l λj H=>hi j (ao _ H));show L2.RelV (ys.getD i V.non) (us.getD i Value.none);rw[ae,ae,E,aa I];exact e
theorem zB.sel {K:Frag}{f:List Int->W}:∀{s:bY}{y:List V}(i:Nat),zB K φ H (s.map f) y->i<s.length->RV K φ H (f (s.getD i [])) (y.getD i .non)
 |k::s,_,0,⟨v,r,e,h,t⟩,_=>by subst e;exact h|k::s,_,i+1,⟨v,r,e,h,t⟩,hi=>by subst e;exact zB.sel i t (by simpa using hi)
theorem zB.sels {K:Frag}{f:List Int->W}(h:zB K φ H (ks.map f) ys):∀(l:cb),(∀i∈l,i<ks.length)->zB K φ H ((l.map λi=>ks.getD i []).map f) (l.map λi=>ys.getD i .non)
 |[],_=>rfl|i::l,hi=>⟨_,_,rfl,zB.sel i h (hi i (au ..)),zB.sels h l λj a=>hi j (ao _ a)⟩
section
theorem O2 {j:List (Option V)}(I:Inv X n9 j H s):∀{g:bY}{y:List V}{i:b0},zB X.K φ H (g.map WE) y->(∀k∈g,k≠[])->Vals y i->wA s.heap i g
 |[],_,_,e,_,b=>by subst e;rw[Vals.zero b];exact .nil
 |k::g,_,_,⟨v,r,e,h,t⟩,ne,b=>by
  subst e;cases b with
  |cons c b=>
   obtain⟨a,w,e,T,d⟩:=h;subst e;have E:=zB.ints.mp d;subst E;obtain⟨i,l,⟨o,u,q,n,p⟩,_⟩:=I.tuple T;cases c;exact .cons ⟨a,o,i,n,rfl,u,q,p,intsAre_of l⟩ (ne k (au ..)) (O2 I t (λk f=>ne k (ao _ f)) b)
end
open PySem.W (kas_kind)
section
open PySem.SeqAt
open PySem.AutoSeq1 (wpAny_loadPart')
open PySem.MeetsSeq PySem.MeetsSeq2 PySem.MeetsSeq3
end
open AutoSeq1 (wpAny_loadPart')
def UL (X:Cx):Prop:=∀p a H s,Inv X p a H s->∀(x:Str)(c:Addr),X.env.cells.lookup x=some c->c∉qG X.stack
def KW (h:∀x,X.fn x=true):UL X:=λp a H s I x c e=>iw I h e
def gz (n:Nat)(q:Str)(P:Addr)(i:cb)(g:Fn):Ev:=λa A=>match A[n]? with
 |some (.tab Q P')=>if Q=q/\P'=P then(match J0 i a with|some w=>g w A|none=>.bad) else .bad
 |_=>.bad
section
variable {t:Lm}{q:Str}
def Ov (I:Inv X n9 σ H s)(C:UL X)(l:Jn X.prog X.w X.K X.mg j q t)(x:Xv X t):
  Wr X.prog X.w X.K X.mg (Z5 X.base s.heap X.env.cells) X.A X.stack s H/\∀k,Jj X.prog X.w X.K X.mg (Z5 X.base s.heap X.env.cells) (j+1) (WJ X.env q [t] σ k) (wZ [t] k):=by
 have a:∀b o,X.base.get? b=some o->(Z5 X.base s.heap X.env.cells).get? b=some o:=λb o e=>ED I.bk e;have M:Mod X.K X.mg (Z5 X.base s.heap X.env.cells):=by obtain⟨d,n,B⟩:=I.mod.blt;exact⟨I.mod.kin.keeps a,I.mod.glob.keeps a,⟨d,n.keeps a,B⟩,I.mod.nolimit.keeps a⟩
 have bs:∀b o,(Z5 X.base s.heap X.env.cells).get? b=some o->s.heap.get? b=some o/\H b=none:=λb o e=>by
  obtain⟨i,E⟩:=Oy e;refine⟨i,?_⟩;rcases E with ⟨r,E⟩|⟨y,E⟩
  ·exact(I.bs b r E).2
  ·exact I.freeC y b E
 refine⟨⟨I.ok.frames,M,bs,Nat.le_of_eq (hideAll_size _ _),frames_at I.stack λb c=>?_,I.stkFree,I.hok,I.bare⟩,
  λk=>iu (all_cons l all_nil) (λT f z h=>AD I (λy p v e ⟨o,g,u⟩=>⟨o,E9 e g,u⟩) (all_cons x all_nil T f) h) k⟩
 cases e:(Z5 X.base s.heap X.env.cells).get? b with
 |none=>rfl|some o=>
  exfalso;rcases(Oy e).2 with ⟨r,E⟩|⟨y,E⟩
  ·have:=(I.stack.mem c).1
   rw[E]at this;cases this
  ·exact C n9 σ H s I y b E c
end
section
variable {K:Frag}{st:Stmt}{k:Nat}{m:Ex}
def j3 (F:kx K x x st f fd)(n:nsIn K mainGlobals x=some (some (.ref f)))(t:tabIn K x=some (c,Pt))(S:yO N ps (zY st))
  (h:∀(A:Around)(o:cq)(s:Shared)(H:Hp)(E:XK),jb k (A.deeper (envOfC x (zY st) s.heap.objs.size f (.ref c)))->J4 (yV yY P w K mg base N x (zY st) f (.ref c) A o s H E).nox yd (jJ st) m):
  yu P w K mg base yY (k+1) f fd ps (ZD K ps.length (qg N.length m)):=
 (iy (q := "") (ls:=[]) F n t S h).imp λv H Q E ⟨l,a,A,b,S,r,q⟩=>⟨l,a,A,b,S,r,λ_=>q⟩
end
def D5 {K:Frag}{M:cn}{k:Nat}{fa p:Addr}{sp:Sp}{S:Shared}{vs:b0}
  (KX:K.In S.heap)(C:S.heap.Ns mainGlobals mg)(c:S.heap.Ns builtinsNs M)(hbb:∀x:Str,x ≠ "__name__" -> M x=bootBuiltins x)(D:S.heap.NoLimit)(hg:S.gens=#[])
  (l:S.heap.get? a=some { cls:=.type "list",data:=.seq vs.toArray })(hi:IntsAre vs ns)(hl:ns.length<=sizeLine)(hr:jb k callerA)
  (t:S.heap.get? Pt=some (tabObj #[]))(hKP:K.lookup Pt=none)(X:isCodeTable S.heap Pt)(i:S.heap.get? p=some (tabObj #[]))(hKU:K.lookup p=none)(U:isCodeTable S.heap p)(Y:BMain mg S.heap)
  (F:∀base:Heap,K.In base->base.Ns mainGlobals mg->BMain mg base->yu P w K mg base yY k fa fd [x] sp)(A:∀(s:Shared)(u:Value),BindsTo s fd ⟨[u],[]⟩ [(x,u)])
  (Q:∀H:Hp,H Pt=some (.tbl #[])->H p=some (.tbl #[])->Kb K H a (ns.map V.int)->sp [.ref a] H (λv _=>v=.bl true) λ_ _ _=>False):
  codeAny (model P w) callerA (.call (.ref fa) ⟨[.ref a],[]⟩) (λr y=>r=.ok (.ret (.bool true))/\OldK S.heap y.heap/\y.os=S.os/\AllBare y.gens) S:=by
 have rv:=VE hi;have core:∀H:Hp,H Pt=some (.tbl #[])->H p=some (.tbl #[])->Kb K H a (ns.map V.int)->qY P w H S.heap->(∀b,H b≠none->b=a∨b=Pt∨b=p)->(∀u,H a=some u->K.lookup a=none/\∃o xs,u=.frz o (.lst xs))->
   codeAny (model P w) callerA (.call (.ref fa) ⟨[.ref a],[]⟩) (λr y=>r=.ok (.ret (.bool true))/\OldK S.heap y.heap/\y.os=S.os/\AllBare y.gens) S:=by
  intro H hO hU hS hok I hK;have base_of:∀{b:Addr}{o:Obj},S.heap.get? b=some o->H b=none->(JU S.heap H).get? b=some o:=λe n=>Bl e n;have L:∀{b:Addr}{o:Obj}{es:Array DictEntry}{ep:Nat},S.heap.get? b=some o->o.data=.dict es ep->H b=none:=λ {b o es ep} e d=>by
   cases q:H b with
   |none=>rfl|some u=>
    rcases I b (by rw[q];simp) with z|z|z
    ·subst z
     rw[l]at e;cases e;cases d
    ·subst z
     rw[t]at e;cases e;cases d
    ·subst z
     rw[i]at e;cases e;cases d
  have N:∀{b:Addr}{m:cn},S.heap.Ns b m->(JU S.heap H).Ns b m:=λ {b m} ⟨o,es,ep,e,d,r⟩=>⟨o,es,ep,base_of e (L e d),d,r⟩;have E:=λb o e=>base_of (KX b o e) (by
   cases q:H b with
   |none=>rfl|some u=>
    rcases I b (by rw[q];simp) with z|z|z
    ·subst z
     rw[(hK u q).1]at e;cases e
    ·subst z
     rw[hKP]at e;cases e
    ·subst z
     rw[hKU]at e;cases e)
  have hBb:BMain mg (JU S.heap H):=by
   obtain⟨bm,o,b1,b2,b3,B,J,b6,b7⟩:=Y;refine⟨bm,o,b1,b2,b3,base_of B ?_,J,b6,b7⟩;cases q:H bm with
   |none=>rfl|some u=>
    rcases I bm (by rw[q];simp) with z|z|z
    ·subst z
     rw[l]at B;cases B;exact absurd J (by intro q;injection q with q;exact absurd q (by decide))
    ·subst z
     rw[t]at B;cases B;cases J
    ·subst z
     rw[i]at B;cases B;cases J
  refine codeAny_mono ((F _ E (N C) hBb).run callerA [] S H ⟨[.ref a],[]⟩ [.ref a] [.ref a] _ _ hr (⟨rfl,(⟨E,N C,⟨M,N c,hbb⟩,let ⟨mc,h1,h2⟩:=D;⟨mc,N h1,h2⟩⟩),λb o e=>cN e,Nat.le_of_eq (DX _ _),trivial,λb c=>absurd (show b∈([]:b8) from c) (by simp),hok,.of_eq hg⟩) (A S (.ref a)) (.cons rfl .nil) (Q H hO hU hS)) λr y h=>?_
  cases r with
  |error e=>exact False.elim h|ok fl=>
   cases fl with
   |next=>exact False.elim h|brk=>exact False.elim h|cont=>exact False.elim h|ret u=>
    obtain⟨v,H',os,bare,un,g,r',q⟩:=h;subst q;obtain rfl:u=Value.bool true:=r';refine⟨rfl,⟨λb o e=>?_,λb o e=>un.there b o e (by simp)⟩,os,bare⟩
    cases q:H b with
    |none=>exact .inl (un.keep b o e q (by intro z;exact absurd (show b∈([]:b8) from z) (by simp)) (by simp))|some u=>
     rcases I b (by rw[q];simp) with z|z|z
     ·subst z
      obtain⟨ob,xs,rfl⟩:=(hK u q).2;have j:=un.frzs _ ob _ q;obtain⟨e1,_⟩:=hok _ _ q;obtain⟨e2,_⟩:=g _ _ j;rw[e]at e1;cases e1;exact .inl e2
     ·subst z
      rw[t]at e;cases e;obtain⟨more,j⟩:=un.tbls _ _ hO;exact .inr (.inl ⟨X,rfl,#[],more,rfl,g _ _ j⟩)
     ·subst z
      rw[i]at e;cases e;obtain⟨more,j⟩:=un.tbls _ _ hU;exact .inr (.inl ⟨U,rfl,#[],more,rfl,g _ _ j⟩)
 have two:∀b,(b=Pt∨b=p)->S.heap.get? b=some (tabObj #[]):=λb h=>by
  rcases h with h|h<;>rw[h]
  ·exact t
  ·exact i
 have na:¬(a=Pt∨a=p):=λh=>h.elim (λz=>by rw[z,t]at l;cases l) (λz=>by rw[z,i]at l;cases l)
 cases T:K.lookup a with
 |some o=>
  have e:=KX a o T;rw[l]at e;cases e;refine core (λb=>if b=Pt∨b=p then some (.tbl #[]) else none) (aj (.inl rfl)) (aj (.inr rfl)) (.inr ⟨_,vs.toArray,_,T,rfl,rfl,rfl,by rw[aD,hi.length];exact hl,by simpa using rv⟩) (λb u z=>?_) (λb z=>?_) λu z=>?_
  ·by_cases c:b=Pt∨b=p
   ·have Z:=(aj c).symm.trans z
    cases Z;exact two b c
   ·have Z:=(av c).symm.trans z
    cases Z
  ·by_cases c:b=Pt∨b=p
   ·exact .inr c
   ·exact absurd (av c) z
  ·have Z:=(av na).symm.trans z
   cases Z
 |none=>
  refine core (λb=>if b=Pt∨b=p then some (.tbl #[]) else if b=a then some (.frz { cls:=.type "list",data:=.seq vs.toArray } (.lst (ns.map V.int))) else none) (aj (.inl rfl)) (aj (.inr rfl))
   (.inl ⟨{ cls:=.type "list",data:=.seq vs.toArray },(av na).trans (aj rfl)⟩) (λb u z=>?_) (λb z=>?_) λu z=>?_
  ·by_cases c:b=Pt∨b=p
   ·have Z:=(aj c).symm.trans z
    cases Z;exact two b c
   ·have Z:=(av c).symm.trans z
    by_cases f:b=a
    ·have j:=(aj f).symm.trans Z
     cases j;subst f;exact⟨l,by rw[ah];exact hl,vs,_,rv,l⟩
    ·have j:=(av f).symm.trans Z
     cases j
  ·by_cases c:b=Pt∨b=p
   ·exact .inr c
   ·by_cases f:b=a
    ·exact .inl f
    ·exact absurd ((av c).trans (av f)) z
  ·have Z:=((av na).trans (aj rfl)).symm.trans z
   cases Z;exact⟨T,_,_,rfl⟩
def N7 (q r:Str)(fs:Addr->Addr->Fn):Prop:=∀n:bZ,n.length<=63->∀p P,∃A,fs p P [.ref 0] [.ro (n.map W.int),.tab q p,.tab r P]=.ok (.bl true) A
def ER {K:Frag}{P:Addr}{q r:Str}(N:Pt≠P)(f:H Pt=some (.tbl #[]))(U:H P=some (.tbl #[]))(S:Kb K H a (ns.map V.int)):zJ K [a,Pt,P] [.ro (ns.map W.int),.tab q Pt,.tab r P] H:=by
 refine⟨rfl,λi j b o t l g d c s M=>?_,λn o h=>?_⟩
 ·match i,j,l,g,d,c with|0,_,_,_,d,_=>simp at d;subst d;cases s|_,0,_,_,_,c=>simp at c;subst c;cases M|1,1,_,_,_,_=>rfl|2,2,_,_,_,_=>rfl|1,2,l,g,_,_=>simp at l g;exact absurd (l.trans g.symm) N|2,1,l,g,_,_=>simp at l g;exact absurd (g.trans l.symm) N|i+3,_,_,_,d,_=>simp at d|_,j+3,_,_,_,c=>simp at c
 ·match n,h with
  |0,h=>simp at h;subst h;exact⟨a,rfl,ns.map V.int,S,zB.ints.mpr rfl⟩|1,h=>simp at h;subst h;exact⟨Pt,rfl,rfl,#[],f,trivial,λp C e=>nomatch e⟩
  |2,h=>simp at h;subst h;exact⟨P,rfl,rfl,#[],U,trivial,λp C e=>nomatch e⟩
open PySem.W (KasT kas_asc kas_sort kat_run kat_snds kat_kind)
section
variable {K:Frag}{ox:b8}{H':Hp}
mutual
theorem RV.nar (E:∀(n:Nat)(a:Addr),φ[n]? =some a->ox[n]? =some a):∀{w:W}{v j:V},RV K φ H w j->RV K ox H' w v->RV K φ H' w v
 |.non,_,_,_,h=>h|.bl _,_,_,_,h=>h|.int _,_,_,_,h=>h|.str _,_,_,_,h=>h|.tup i,_,_,⟨_,_,_,_,b⟩,⟨a,s,e,t,r⟩=>⟨a,s,e,t,zB.nar E b r⟩|.ref n,_,_,⟨A,_,g⟩,⟨a,e,f⟩=>⟨a,e,by rw[<- aB ((E _ _ g).symm.trans f)];exact g⟩|.clo _ i P,_,_,⟨_,_,_,_,_,_,_,_,_,_,_,b⟩,⟨a,ob,u,c,o,uc,s,e,h1,h2,d,r⟩=>⟨a,ob,u,c,o,uc,s,e,h1,h2,d,zB.nar E b r⟩|.xc x,_,_,_,h=>h
theorem zB.nar (E:∀(n:Nat)(a:Addr),φ[n]? =some a->ox[n]? =some a):∀{s:List W}{c b:List V},zB K φ H s b->zB K ox H' s c->zB K φ H' s c
 |[],_,_,_,h=>h|w::s,_,_,⟨_,_,_,h0,t0⟩,⟨v,r,e,h,t⟩=>⟨v,r,e,RV.nar E h0 h,zB.nar E t0 t⟩
end
end
open PySem.W (KasT kas_sort kas_asc kas_desc kas_tail3 kas_descPart kas_count kas_rev kas_place kas_bin kas_ask kat_run kat_snds kat_kind kat_lt kat_cons kat_nil kat_yes kat_no kat_one KatLex KatGo KatTups)
noncomputable def X2 (c:Nat->Nat->Bool):KasT α->α
 |.ret a=>a|.ask i j k=>X2 c (k (c i j))
section
variable {c:Nat->Nat->Bool}{Q:α->Prop}
theorem TW.ru:∀(t:KasT α),TW n c t Q->Q (X2 c t)
 |.ret _,h=>h|.ask i j k,h=>TW.ru (k (c i j)) h.2.2
theorem TW.wpR {cmp:Nat->Nat->(Bool->Shared->Prop)->Shared->Prop}{G:α->Shared->Prop}(H:∀i j C,i<n->j<n->C (c i j) s->cmp i j C s):∀(t:KasT α),TW n c t Q->G (X2 c t) s->t.kasWp cmp G s
 |.ret _,_,g=>g|.ask i j k,h,g=>H i j _ h.1 h.2.1 (TW.wpR H (k (c i j)) h.2.2 g)
end
section
variable {c:Nat->Nat->Bool}
theorem Ti {p:Array Nat}(P:yN n p)(H:0<n){Q:Nat->Prop}(h:∀m,Q m):∀(f a:Nat),TW n c (kas_asc p f a) Q
 |0,a=>h a|f+1,a=>by
  refine⟨P.lt H _,P.lt H _,?_⟩;cases c (p.getD a 0) (p.getD (a-1) 0) with|true=>exact h a|false=>exact Ti P H h f (a+1)
theorem Xa (b:0<n){Q:Array Nat×Nat×Nat->Prop}(h:∀p m q,yN n p->Q (p,m,q)):∀(f:Nat)(p:Array Nat)(a q:Nat),yN n p->TW n c (kas_desc f p a q) Q
 |0,p,a,q,P=>h p a q P|f+1,p,a,q,P=>by
  refine⟨P.lt b _,P.lt b _,?_⟩;cases c (p.getD a 0) (p.getD (a-1) 0) with
  |true=>
   by_cases H:q > 0
   ·rw[aj H]
    exact Xa b h f _ _ _ (P.rev _ _)
   ·rw[av H]
    exact Xa b h f _ _ _ P
  |false=>
   refine⟨P.lt b _,P.lt b _,?_⟩;cases c (p.getD (a-1) 0) (p.getD a 0) with|true=>exact h p a q P|false=>exact Xa b h f _ _ _ P
def Mn {p:Array Nat}{a r:Nat}{Q:Nat×Array Nat->Prop}(H:0<n)(h:∀m p,yN n p->Q (m,p))(P:yN n p):TW n c (kas_tail3 a r p) Q:=
 TW.bind _ (Ti (P.rev _ _) H (λm=>h m _ (P.rev _ _)) _ _)
def NG {p:Array Nat}{a r:Nat}{Q:Nat×Array Nat->Prop}(H:0<n)(h:∀m p,yN n p->Q (m,p))(P:yN n p):TW n c (kas_descPart a r p) Q:=
 TW.bind _ (Xa H (λb m q d=>by
  show TW n c (if q > 0 then kas_tail3 m r (kas_rev b (m-(q+1)) m) else kas_tail3 m r b) Q
  split
  ·exact Mn H h (d.rev _ _)
  ·exact Mn H h d) _ _ _ _ P)
def kc {p:Array Nat}{r:Nat}{Q:Nat×Array Nat->Prop}(H:0<n)(h:∀m p,yN n p->Q (m,p))(P:yN n p):TW n c (kas_count r p) Q:=by
 refine TW.bind _ (Ti P H (λm=>?_) _ _)
 split
 ·exact h m p P
 ·split
  ·refine⟨P.lt H _,P.lt H _,?_⟩
   cases c (p.getD 0 0) (p.getD (m-1) 0) with|true=>exact h m p P|false=>exact NG H h (P.rev _ _)
  ·exact NG H h P
theorem Uo {p:Array Nat}{k:Nat}(H:0<n)(P:yN n p){Q:Nat->Prop}(h:∀m,Q m):∀(f l r:Nat),TW n c (kas_place p k f l r) Q
 |0,l,r=>h l|f+1,l,r=>by
  show TW n c (if l ≥ r then _ else _) Q
  split
  ·exact h l
  ·refine⟨P.lt H _,P.lt H _,?_⟩
   cases c (p.getD k 0) (p.getD ((l+r)/2) 0) with|true=>exact Uo H P h f _ _|false=>exact Uo H P h f _ _
theorem MH (H:0<n){Q:Array Nat->Prop}(h:∀p,yN n p->Q p):∀(f:Nat)(p:Array Nat)(k:Nat),yN n p->TW n c (kas_bin f p k) Q
 |0,p,k,P=>h p P|f+1,p,k,P=>TW.bind _ (Uo H P (λm=>MH H h f _ _ (P.bub _ _)) _ _ _)
def N8 (h:0<n):TW n c (kas_sort n) (yN n):=by
 refine TW.bind _ (kc h (λm p P=>?_) ⟨Array.Perm.refl _⟩);dsimp only
 split
 ·exact MH h (λ_ P=>P) _ _ _ P
 ·exact P
end
noncomputable def Jp:List Int->List Int->Bool
 |[],[]=>false|[],_::_=>true|_::_,[]=>false|a::x,b::y=>if a=b then Jp x y else decide (a<b)
def gO (K:bY):bY:=if K.length<2 then K else(X2 (λi j=>Jp (K.getD i []) (K.getD j [])) (kas_sort K.length)).toList.map λi=>K.getD i []
def EN (K:bY):(gO K).Perm K:=by
 unfold gO
 split
 ·exact List.Perm.refl _
 ·refine((Array.perm_iff_toList_perm.mp (TW.ru _ (N8 (n:=K.length) (by lia))).pm).map _).trans (.of_eq ?_)
  rw[toList_toArray,Tv]
section
variable {prog:Program}{A:Around}
theorem OU {Q:Bool->Shared->Prop}{b:Bool}:∀{x y:b0}{f bs:bZ}{i:Nat},IntsAre x f->IntsAre y bs->Q (Jp f bs) s->KatLex prog w A b (decide (x.length<y.length)) Q (x.zip y) i s
 |_,_,_,_,_,.nil,.nil,h=>h|_,_,_,_,_,.nil,.cons _ _ _,h=>by refine kat_nil ?_;simpa[Jp] using h
 |_,_,_,_,_,.cons _ _ _,.nil,h=>by refine kat_nil ?_;simpa[Jp] using h
 |_,_,_,_,i,.cons (vs:=x) a t d,.cons (vs:=y) c u r,h=>by
  refine kat_cons (wpAny_eqBool_int ?_);unfold Jp at h
  by_cases e:a=c
  ·subst e
   rw[aj rfl]at h;rw[bV];show KatLex prog w A b (decide (x.length+1<y.length+1)) Q (x.zip y) (i+1) s;rw[show decide (x.length+1<y.length+1)=decide (x.length<y.length) by simp]
   exact OU d r h
  ·rw[av e]at h
   rw[show(a==c)=false by simp[e]]
   exact kat_no (jt h)
def ke {x y:Value}{k:bZ}{b:Bool}{Q:Bool->Shared->Prop}(g:JX s.heap x k)(f:JX s.heap y l)(h:Q (Jp k l) s):wpAny (model prog w) A (keyLt' (tuples' b) x y) Q E s:=by
 obtain⟨a,o,e,n,rfl,r,_,p,j⟩:=g;obtain⟨q,t,I,N,rfl,d,_,c,H⟩:=f;refine kat_lt r p d c ?_
 have:=OU (prog:=prog) (w:=w) (A:=A) (b:=b) (i:=0) j H h
 simpa using this
def Dd {Y:b0}{P:PySem.Fin->Shared->Prop}(g:s.heap.get? a=some (seqObj "list" Y.toArray n))(l:Y.length=ks.length)(K:∀y:Heap,(∀b o,b≠a->s.heap.get? b=some o->y.get? b=some o)->wA y Y ks)(x:Y.length<64)
  (h:∀p:Array Nat,p.Perm (List.range ks.length).toArray->(p.toList.map λi=>ks.getD i [])=gO ks->P (.done (.ret .none)) { s with heap:=sortedHeap s.heap a Y (p.toList.map λi=>Y.getD i Value.none).toArray }):
  wpAny (model prog w) A (Builtin.«list.sort» ⟨[.ref a],[]⟩) P E s:=by
 obtain⟨B,d⟩:∃B,(s.heap.update a (Obj.mapSeq λ_=>(#[]:Array Value))).get? a=some (seqObj "list" #[] B):=⟨_,get?_update_seq g λ_=>#[]⟩;have T:=K (((s.heap.update a (Obj.mapSeq λ_=>(#[]:Array Value))).push (seqObj "tuple" Y.toArray 0)).push (seqObj "list" #[] 0)) λb o ne e=>af _ (af _ ((aR _ _ (Ne.symm ne)).trans e));have H:=af (seqObj "list" #[] 0) (af (seqObj "tuple" Y.toArray 0) d);have z:Y.toArray.size=Y.length:=by simp
 rw[list_sort_plain];refine cz (listItems_at g rfl ?_);refine cz (listUpdate_at g rfl ?_ (by rw[z,sizeLine_eq];lia) (bR _))
 refine cz (seqEpoch_at d rfl ?_);refine cz (wpAny_newTuple ?_ (by show Y.length<=_;rw[sizeLine_eq];lia))
 refine cz (wpAny_newList ?_ (bR _));refine wpAny_holding ?_;dsimp only
 by_cases c:Y.toArray.size<2
 ·rw[aj c,aj c]
  refine cz (cA ?_);refine cz (cA ?_);refine cz (seqEpoch_at H rfl ?_);rw[show((Y.toArray.zip Y.toArray).map (·.2))=((List.range ks.length).toArray.toList.map λi=>Y.getD i Value.none).toArray by rw[<- l,toList_toArray,Tv];exact js Y]
  refine cz (listUpdate_at H rfl ?_ (bR _) (by rw[aD,ah];simp;rw[<- l,sizeLine_eq];lia))
  simp only[bne_self_eq_false,bP,if_false];refine cA (h (List.range ks.length).toArray (Array.Perm.refl _) ?_);rw[toList_toArray,Tv,gO,aj (by lia)]
 ·rw[av c,av c]
  have h2:2<=Y.length:=by lia
  obtain⟨fs,t,fl,hf⟩:=T.firsts;refine cz (kat_kind t (by lia) (λv I=>by obtain⟨i,tk,rfl⟩:=hf v I;exact PySem.W.Looks.of_pure rfl) rfl ?_)
  refine cz (wpAny_mono (kat_run
   (Q:=λS f=>∃p:Array Nat,p.size=Y.length/\arrOf S=p.map (PySem.W.kas_item (Y.toArray.zip Y.toArray))/\failedOf S=none/\f={ s with heap:=((s.heap.update a (Obj.mapSeq λ_=>(#[]:Array Value))).push (seqObj "tuple" Y.toArray 0)).push (seqObj "list" #[] 0) }/\p.Perm (List.range ks.length).toArray/\(p.toList.map λi=>ks.getD i [])=gO ks)
   rfl h2 x (λp S f a1 a2 X U=>⟨p,a1,a2,X,U⟩) ?_) ?_ λ_ _ e=>e)
  ·rw[l]
   have q:=N8 (n:=ks.length) (c:=λi j=>Jp (ks.getD i []) (ks.getD j [])) (by lia)
   exact TW.wpR (λi j C hi L M=>ke (T.at i hi) (T.at j L) M) _ q ⟨rfl,(TW.ru _ q).pm,by rw[gO,av (by lia)]⟩
  ·rintro⟨⟨⟩,S⟩ f ⟨p,J,u,r,rfl,Z,N⟩
   rw[kat_snds rfl u];have D:(List.toArray (p.toList.map λi=>Y.getD i Value.none)).size=Y.length:=by rw[aD,ah,aT,J]
   refine cz (seqEpoch_at H rfl ?_);refine cz (listUpdate_at H rfl ?_ (bR _) (by rw[D,sizeLine_eq];lia))
   rw[r];simp only[bne_self_eq_false,bP,if_false];exact cA (h p Z N)
def Am {l:Addr}{v:b0}(n:s.heap.IsList l v.toArray)(T:wA s.heap v ks)(j:v.length<64)
  (h:∀(f:Heap)(a:Addr)(p:Array Nat)(c:Nat),s.heap.objs.size<=a->p.Perm (List.range ks.length).toArray->(p.toList.map λi=>ks.getD i [])=gO ks->f.get? a=some { cls:=.type "list",data:=.seq (p.toList.map λi=>v.getD i Value.none).toArray c }->
   (∀b o,s.heap.get? b=some o->f.get? b=some o)->Q (.ref a) { s with heap:=f }):
  wpAny (model prog w) A (call (.builtin "sorted") [.ref l]) Q E s:=by
 refine Calls.call_function_entry kind_sorted plain_sorted entry_sorted (args_sorted1 _) ?_;refine cz (cA ?_);refine cz (collect_list n ?_ (by rw[sizeLine_eq];lia))
 refine cz (wpAny_newList ?_ (by rw[sizeLine_eq];lia))
 have g:((s.heap.push (seqObj "list" #[] 0)).update s.heap.objs.size (Obj.mapSeq (·++v.toArray))).objs.size=s.heap.objs.size+1:=by rw[Heap.size_update,size_push']
 have d:∀b o,s.heap.get? b=some o->((s.heap.push (seqObj "list" #[] 0)).update s.heap.objs.size (Obj.mapSeq (·++v.toArray))).get? b=some o:=λb o e=>
  (aR _ _ (br (aG e))).trans (af _ e)
 generalize (s.heap.push (seqObj "list" #[] 0)).update s.heap.objs.size (Obj.mapSeq (·++v.toArray))=h1 at g d;have H:(h1.push (seqObj "list" v.toArray 0)).get? h1.objs.size=some (seqObj "list" v.toArray 0):=ay _ rfl;have K:∀b o,s.heap.get? b=some o->(h1.push (seqObj "list" v.toArray 0)).get? b=some o:=λb o e=>af _ (d b o e);have N:∀b o,s.heap.get? b=some o->b≠h1.objs.size:=λb o e z=>by
  subst z
  have:h1.objs.size<s.heap.objs.size:=aG e
  lia
 refine cz (wpAny_holding (wpAny_call_entry slot_list_sort ⟨_,H,rfl⟩ entry_list_sort (Dd H T.length (λf t=>T.keep λb o e=>t b o (N b o e) (K b o e)) j λp P q=>⟨_,rfl,?_⟩) (args_list_sort _)));refine cA ⟨_,rfl,?_⟩;obtain⟨c,r⟩:∃c,(sortedHeap (h1.push (seqObj "list" v.toArray 0)) h1.objs.size v (p.toList.map λi=>v.getD i Value.none).toArray).get? h1.objs.size=some (seqObj "list" (p.toList.map λi=>v.getD i Value.none).toArray c):=⟨_,get?_update_seq (af (seqObj "list" #[] 0) (af (seqObj "tuple" v.toArray 0) (get?_update_seq H (λ_=>(#[]:Array Value))))) (λ_=>(p.toList.map λi=>v.getD i Value.none).toArray)⟩;refine h _ h1.objs.size p c (by lia) P q r λb o e=>?_
 exact(aR _ _ (Ne.symm (N b o e))).trans (af _ (af _ ((aR _ _ (Ne.symm (N b o e))).trans (K b o e))))
end
section
variable {m:Ev}
def Ft:jU X (.builtin "sorted") (λxs H Q=>∃(p:Addr) (y:List V) (J:bY) (L:b8),xs=[.ref p]/\jd X.K H p y/\zB X.K L H (J.map WE) y/\(∀k∈J,k≠[])/\J.length<64/\
  ∀l zs,H l=none->zB X.K L H ((gO J).map WE) zs->Q (.ref l) (upd H l (.lst zs))):=by
 intro S s Z H xs us Q I r h;obtain⟨p,y,J,L,rfl,g,b,U,t,q⟩:=h;obtain⟨u,rfl,ru⟩:=vals1 r;cases ru;obtain⟨e,v,⟨o,k,A,x,D,w⟩,B⟩:=I.list g;have T:=O2 I b U v;have j:=T.length;have f:y.length=J.length:=by rw[v.length];exact j
 refine Am ⟨o,A,x,k,w⟩ T (by lia) λC a p c d N E n Y=>?_
 have lt:∀i∈p.toList,i<J.length:=λi M=>by
  have:=(Array.perm_iff_toList_perm.mp N).mem_iff.mp M
  simpa using this
 have P:p.toList.length=J.length:=by rw[aT,N.size_eq];simp
 have z:=zB.sels b p.toList lt;rw[E]at z;refine⟨.ref a,_,I.laid (o:=.lst (p.toList.map λi=>y.getD i .non)) Y d ⟨?_,_,c,Vals.sel v p.toList λi M=>by rw[f];exact lt i M,n⟩,rfl,q _ _ (I.hok.fresh d) z⟩
 rw[ah,P,sizeLine_eq];lia
def U0:W->Hx->R W:=λw A=>match w with
 |.ref n=>match A[n]? with
  |some (.lst ws)=>match QD ws with|some K=>if K.length<64 then .ok (.ref A.length) (A++[.lst ((gO K).map WE)]) else .bad|none=>.bad
  |_=>.bad
 |_=>.bad
def UY (m:Ev):Ev:=λa A=>(m a A).bind λw b=>U0 w b
end
open PySem PySem.Spec PyProof.Rows L2 Mi
@[irreducible] def XN (X:Cx)(x:XR)(e:ck)(M:List Ev):Prop:=Mi.SJ X x e M
def N0:@XN=@Mi.SJ:=by delta XN;rfl
section
def Qq {g:Heap}{E:ck}{k:Nat}{f:Fn}(o:gW X g xr)(F:jC X.prog X.w X.K X.mg X.base k x n f)(i:jb k X.A)(v:gG X xr (e::E) mr)(j:QN mr n:=by repeat' (first|exact zx|refine zj ?_))(t:Gl X x:=by rfl)
  (d:yy x:=by decide)(he:qR e E X:=by rfl)(l:kS og E X:=by rfl):
  zw X xr (.Call (.Name x p) (e::E) [] og) (zR f mr):=by
 simp only[zX,N0]at*;obtain⟨M,fd,ps,F,hm,s,u⟩:=F;refine PE.imp (Np F i t hm s u .nil o.passes v d he l) λσ H Q ⟨Z,A,P,S,re,h⟩=>?_;have a:=zW.mp h;refine⟨Z,A,P,S,re,?_⟩;cases r:mr P A with
 |ok U T=>
  rw[r]at a;intro c H1 vs Y D q;rw[bq];refine⟨(by rw[<- q.length];exact j P A U T r),c,T,U,D,q,qx a (λ_ _ z=>z.mono Y) λy N z b I L B J C=>?_⟩
  exact⟨y,J,rfl,C,z b I (Y.trans L) B⟩
 |exc y T=>rw[r]at a;exact a|bad=>rw[r]at a;exact a
def V4 {m:Ev}(h:yx X.nox yd e m):yx X xr e λρ A=>(m ρ A).nox:=by
 simp only[zX,N0]at*;refine PT.imp (PT.nox h) λc H Q ⟨a,A,ρ,S,r,q⟩=>⟨a,A,ρ,S,r,?_⟩;cases E:m ρ A with|ok w b=>(try dsimp only at q);rw[E]at q;exact q|exc y b=>(try dsimp only at q);rw[E]at q;exact q.elim|bad=>(try dsimp only at q);rw[E]at q;exact q.elim
def OM {M:Ex}{s:cy}(h:yv X.nox yd s M):yv X xr s λρ A=>(M ρ A).nox:=by
 simp only[zX,N0]at*;refine yL.imp (yL.nox h) λD c H ⟨a,A,ρ,S,r,q⟩=>⟨a,A,ρ,S,r,?_⟩;cases e:M ρ A with|ok w b=>(try dsimp only at q);rw[e]at q;exact q|exc y b=>(try dsimp only at q);rw[e]at q;exact q.elim|bad=>(try dsimp only at q);rw[e]at q;exact q.elim
def Gh {g:Heap}{E:ck}{top:Str}{N:Pos}(o:gW X g xr)(c:VL X.K top x)(d:gG X xr (e::E) mr)(l:QN mr n:=by repeat' (first|exact zx|refine zj ?_))(f:n<=sizeLine:=by decide)(a:Gl X x:=by rfl)(h:X.calm=true:=by rfl)
  (b:yy x:=by decide)(i:qR e E X:=by rfl)(H:kS oh E X:=by rfl):
  yZ X xr (.Raise (some (.Call (.Name x N) (e::E) [] oh)) none og) (ND x mr):=by
 simp only[zX,N0]at*;exact BM o c.at_ c.exc PySem.F.excBase_ValueError d l f a h b i H
def kl {K:Frag}{D:Stmt}{k:Nat}{m:Ex}(F:kx K x x D f fd)(hm:mg x=some (.ref f))(S:yO N ps (zY D))
  (n:∀(kV I M:Value)(T:cx)(c ct:Value)(U:b0),U.length=ps.length->bindArgs (fnOf x x (gu D) (jJ D) (zY D) .none kV I M T c ct) ⟨U,[]⟩=pure (ps.zip U))
  (b:∀(c:Value)(A:Around)(C:cq)(s:Shared)(H:Hp)(E:XK),jb k (A.deeper (envOfC x (zY D) s.heap.objs.size f c))->
   gW (yV (gm P w) P w K mg base N x (zY D) f c A C s H E) s.heap (gD K E)->yv (yV (gm P w) P w K mg base N x (zY D) f c A C s H E) (gD K E) (jJ D) m):
  jC P w K mg base (k+1) x ps.length (w6 N.length m):=by
 simp only[zX,N0]at*;refine⟨f,fd,ps,?_,hm,F.kp,F.binds n⟩;obtain⟨z,v,kV,I,M,T,c,ct,o,rfl,lk,e⟩:=F.ex;refine Tp lk e S (λZ H Q E h=>h.len) λA C s H Z Q E j ⟨B,Y,X,J,p,r,h⟩=>⟨_,b c A C s H E j hX,?_⟩;refine⟨Y,X,J.map some++List.replicate (N.length-J.length) none,p,RE.start r,?_⟩;have a:=zW.mp h;cases g:m (J.map some++List.replicate (N.length-J.length) none) X with
 |ok fl u=>
  rw[g]at a;cases fl with|rt w=>exact a|nx L=>exactλd t i l q _=>a d t .non l q rfl|bk L=>exact a.elim|ct L=>exact a.elim
 |exc y u=>rw[g]at a;exact a|bad=>rw[g]at a;exact a.elim
def kr {L:Addr}{l:Nat}{n:Str}{y:Str}{Z:Str}{cs:cf}{PG:Nat->ku}{lam:Nat->Fn}{U:b0}{oD:String}{np:Pos}{cp:Pos}{ep:Pos}{dp:Pos}{yp:Pos}{J:Pos}{ap:Pos}{hp:Pos}(hL:∀k,Jj X.prog X.w X.K X.mg X.base kk (PG k) (lam k))(hr:jb kk X.A)(hst:X.stack=X.env::X.outer)(hFr:X.env.frame=some L)(hD:kj X.K Z (.ref D))(exD:Mi.Zx X.K D U oD=true)(hbD:U.contains (.type "BaseException")=true)
  (hcs:∀c,cs.contains c=true->∀C,kj X.K c (.ref C)->∃B f,Mi.Zx X.K C B f=true/\JV X.K C D=true)
  (hN:X.N.Nodup)(hi:X.N[i]? =some x)(hx:X.env.scope.names.lookup x=some .local)(hl:X.N[l]? =some n)(hn:X.env.scope.names.lookup n=some .local)(hj:X.N[j]? =some y)(hy:X.env.scope.names.lookup y=some .local)
  (hg:Gl X Z)(hs1:swapsWith (.Call (.Name x np) [] [] cp) none ep.line X.env=pure false:=by rfl)(hs2:swapsWith (.Name n J) (some (.Name y yp)) ap.line X.env=pure false:=by rfl)
  (hdx:yy x:=by decide)(hdn:yy n:=by decide)(hdD:yy Z:=by decide):
  yZ X xr (.Try [.Expr (.Call (.Name x np) [] [] cp) ep] [.ExceptHandler (some (.Name Z dp)) (some n) [.Assign [.Name y yp] (.Name n J) ap] hp] [] [] og) (Wv i j l cs PG lam):=by
 simp only[zX,N0]at*;intro n9 s σ H D0 I ⟨φ,A,ρ,S,re,h⟩;unfold Wv TR at h;cases ei:ρ[i]? with
 |none=>rw[ei]at h;exact h.elim|some ow=>
  cases ow with
  |none=>rw[ei]at h;exact h.elim|some w=>
   rw[ei]at h;cases w with
   |clo k ws P=>
    dsimp only at h
    by_cases hP:P=PG k
    ·rw[aj hP]at h
     subst hP;obtain⟨v,hv,a,ob,u,c,oc,uc,vs,rfl,h1,h2,hp',rvs⟩:=re.get i _ ei;obtain⟨⟨fd0,hfd⟩,fd,F,hb⟩:=hL k a ob u c oc uc vs hp';have ho:=(show jk X.prog X.w H s.heap a (.frz ob u) from I.hok a _ h1).1
     refine ic (k:=zfl X.K φ H ρ j l D0)
      I hst hFr hD exD hbD hN hl (.inl hn) ?body ?p hg hdD (.inr hn)
     case body=>
      refine wpAny_execs_cons (wpAny_Expr_any ?_ I.quiet hs1);obtain⟨m,hns,Q⟩:=I.loc;obtain⟨u',r',lk⟩:=Q i x (.ref a) hi hv (.inl hx);obtain rfl:u'=Value.ref a:=r';have hm:m x=some (.ref a):=by
       rcases lk with ⟨_,e⟩|⟨q|q,_⟩
       ·exact e
       ·rw[show X.env.kindOf x=some .local from hx]at q;cases q
       ·rw[show X.env.kindOf x=some .local from hx]at q;cases q
      refine wpAny_Call_Name_kw (wpAny_Name (wpAny_loadName_local I.ok.kind hx hns hm ?_) hdx);have hK:Frag.In [(a,ob)] s.heap:=λb o e=>by
       rw[lookup_cons]at e
       by_cases hb:b=a
       ·subst hb;simp at e;subst e;exact ho
       ·have:(b==a)=false:=by simpa using hb
        rw[this]at e;cases e
      have hkp:keepIn [(a,ob)] (.ref a)=true:=by
       unfold keepIn;obtain⟨o1,o2,o3,o4⟩:=ob;cases (show o3=_ from hfd)
       simp[lookup_cons]
      refine PySem.W.callWith_K0 hK hkp ?_;refine wpAny_call (codeAny_mono (F.run X.A X.stack s H ⟨[],[]⟩ [] [] (λ_ H1=>D0.nx σ H1)
       (zfC X.K φ H ρ j l D0 cs)
       hr I.env0 (hb s) .nil ⟨rfl,h1,h2,φ,A,ws,S,rvs,?_⟩) λr s' E=>?_)
      ·cases er:lam k ws A with
       |ok w1 A1=>
        rw[er]at h;exactλd H' v' t Y _=>h d H' σ t Y (re.mono t)
       |exc z A1=>
        rw[er]at h;dsimp only at h
        by_cases T:cs.contains z=true
        ·rw[aj T]at h
         exactλd H' t Y Ca g=>⟨z,Ca,rfl,g,T,d,A1,t,Y,h⟩
        ·rw[av T]at h;exact h.elim
       |bad=>rw[er]at h;exact h.elim
      ·cases r with
       |error e=>
        have un:∀b o,s.heap.get? b=some o->∃o',s'.heap.get? b=some o':=by obtain⟨_,_,_,_,_,_,un,_⟩:=E;exactλb o e=>un.there b o e (by simp)
        obtain⟨ea,C,H',rfl,I',ly,tr,z,Ca,ec,g,T,o5,A1,l1,S1,hn1⟩:=PX I E s.heap λb o e=>⟨o,e⟩;cases ec;obtain⟨B,f,exC,up⟩:=hcs z T C g;exact⟨ea,C,H',B,f,rfl,I',ly,tr,un,exC,up,λoe hoe M=>⟨z,o5,A1,l1.trans (Le.new M),S1.lay M,⟨ea,oe,.own 0,C,rfl,jD,hoe,g⟩,hn1⟩⟩
       |ok fl=>
        cases fl with
        |ret u1=>
         obtain⟨v1,H1,I1,_,q1⟩:=I.after E;exact wpAny_execs_nil ⟨rfl,σ,H1,I1,q1⟩
        |next=>exact False.elim E|brk=>exact False.elim E|cont=>exact False.elim E
     case p=>
      rintro ea C H2 s2 I2 ⟨z,d,A',t,Y,rx,hn'⟩ E'
      refine Ey I2 hN hl hj hn (.inl hy) (λs' I'=>?_) hs2 (.inr hy) hdn;exact⟨_,H2,I',hn' d H2 _ t Y ((((re.mono t).set rx).set rx).unset)⟩
    ·rw[av hP]at h;exact h.elim
   |_=>exact h.elim
def wu {m:Ev}{P:Pos}{f:Str->Option Bool}{C:Addr}(b:We X.K f (.ref C))(c:kj X.K x (.ref C))(n:X.mg "isinstance"=none)(d:zw X xr e m)(g:Gl X "isinstance":=by rfl)(a:Gl X x:=by rfl)(o:yy x:=by decide)
  (j:starEach [e,.Name x P] X.env=(false,eval e X.env)::starEach [.Name x P] X.env:=by rfl)(q:(backTo og (starEach [.Name x P] X.env)).any (·.1)=false:=by rfl):
  zw X xr (.Call (.Name "isinstance" p) [e,.Name x P] [] og) (yw f m):=by
 simp only[zX,N0]at*;exact PE.imp (Qs (OB (cv:=.ref C) b λu r=>r) g n (by rfl) (qX d (qX (λi s l H Q I h=>KL I a (bX I.mod.kin I.mod.glob c) ⟨.ref C,H,I,rfl,h⟩ o) jQ) j) (by decide) (by decide) j q) (yw.read λl H Q h=>h)
def Af {m:Ev}{P:Pos}{f:Str->Option Bool}{T:String}(c:We X.K f (.type T))(l:X.mg "isinstance"=none)(a:X.mg x=none)(d:bootBuiltins x=some (.type T))(i:zw X xr e m)(g:Gl X "isinstance":=by rfl)(b:Gl X x:=by rfl)(n:x ≠ "__name__":=by decide)(o:yy x:=by decide)
  (j:starEach [e,.Name x P] X.env=(false,eval e X.env)::starEach [.Name x P] X.env:=by rfl)(q:(backTo og (starEach [.Name x P] X.env)).any (·.1)=false:=by rfl):
  zw X xr (.Call (.Name "isinstance" p) [e,.Name x P] [] og) (yw f m):=by
 simp only[zX,N0]at*;exact PE.imp (Qs (OB (cv:=.ty T) c λu r=>r) g l (by rfl) (qX i (qX (GK b a d (v:=.ty T) rfl n o) jQ) j) (by decide) (by decide) j q) (yw.read λs H Q h=>h)
def kv {m:Ev}{b:Pos}{P:Pos}{pt:Pos}{a:Str}{x:Str}{K:Nat}(t T:Ty)(N:X.mg "isinstance"=none)(o:X.mg a=none)(n:X.mg x=none)(g:bootBuiltins a=some (.type t.nm))(f:bootBuiltins x=some (.type T.nm))(C:zw X xr e m)(B:Gl X "isinstance":=by rfl)(r:Gl X a:=by rfl)(q:Gl X x:=by rfl)
  (j:a ≠ "__name__":=by decide)(s:yy a:=by decide)(i:x ≠ "__name__":=by decide)(I:yy x:=by decide)
  (Y:starEach [.Name a b,.Name x P] X.env=(false,eval (.Name a b) X.env)::starEach [.Name x P] X.env:=by rfl)(u:starEach [.Name x P] X.env=(false,eval (.Name x P) X.env)::starEach [] X.env:=by rfl)
  (D:starEach [e,.Tuple [.Name a b,.Name x P] K pt] X.env=(false,eval e X.env)::starEach [.Tuple [.Name a b,.Name x P] K pt] X.env:=by rfl)(U:(backTo og (starEach [.Tuple [.Name a b,.Name x P] K pt] X.env)).any (·.1)=false:=by rfl):
  zw X xr (.Call (.Name "isinstance" p) [e,.Tuple [.Name a b,.Name x P] K pt] [] og) (M8 t T m):=by
 simp only[zX,N0]at*;exact PE.imp (Qs BG B N (by rfl) (qX C (qX (Nx (qX (GK r o g (v:=.ty t.nm) rfl j s) (qX (GK q n f (v:=.ty T.nm) rfl i I) jQ u) Y)) jQ) D) (by decide) (by decide) D U) λσ H Q ⟨φ,A,ρ,S,L,h⟩=>by
   refine tM.go S L (zW.mp h) λw Z d H1 v D M y z=>?_;cases E:qZ w Z with
   |none=>rw[E]at D;exact D.elim|some J=>
    rw[E]at D;refine⟨by show 2<=sizeLine;decide,λl c=>⟨v,J,l,rfl,qy.of jD,?_,D d _ _ (M.trans (Le.new c)) (y.lay c) rfl⟩⟩
    exact OC (y.lay c) (z.mono (Le.new c)) E
def kB {m:Ev}(o:zw X xr e m)(g:gf X tg tw)(d:swapsWithSole [tg] e og.line X.env=pure false:=by rfl)(n:swappedStores [tg] e X.env=pure none:=by rfl)(f:(assignEach [tg] X.env).map (·.2)=[assign tg X.env]:=by rfl):yZ X xr (.Assign [tg] e og) (T4 m tw):=by
 simp only[zX,N0]at*;exact PS.imp (Mj o g d n f) λD x H ⟨u,A,i,S,j,h⟩=>by
   refine tM.go S j (zW.mp h) λw t a p v f l s q=>?_;cases E:tw w i with
   |none=>rw[E]at f;exact f.elim|some c=>
    rw[E]at f;exact⟨a,t,i,w,c,s,j.mono l,q,E,λb r=>f a p b l s r⟩
def kC {a:Expr}{b:Expr}{ma:Ev}{M:Ev}{pt:Pos}{U:Nat}(i j:Nat){y:Str}{P T p:Pos}{Y:Nat}(o:X.calm=true)(u:X.N.Nodup)(t:zw X xr a ma)(r:zw X xr b M)(hi:X.N[i]? =some x:=by rfl)(n:X.N[j]? =some y:=by rfl)(d:i≠j:=by decide)
  (g:X.env.scope.names.lookup x=some .local:=by rfl)(f:X.env.scope.names.lookup y=some .local:=by rfl)
  (hw:swappedStores [.Tuple [.Name x P,.Name y T] U pt] (.Tuple [a,b] Y p) X.env=pure (some [x,y]):=by rfl)
  (s:swapsWithSole [.Tuple [.Name x P,.Name y T] U pt] (.Tuple [a,b] Y p) og.line X.env=pure false:=by rfl)
  (h1:qR a [b] X:=by rfl)(Z:qR b [] X:=by rfl):
  yZ X xr (.Assign [.Tuple [.Name x P,.Name y T] U pt] (.Tuple [a,b] Y p) og) (XB i j ma M):=by
 simp only[zX,N0]at*;exact PS.imp (dC o u hi n d g f (qX t (qX r jQ Z) h1) hw s) λD σ H ⟨φ,A,ρ,S,K,h⟩=>by refine tM.go S K (zW.mp h) λw A1 e H1 v h1 L C Q=>?_;refine tM.go C (K.mono L) (qx (zW.mp h1) (λ_ _ z=>z) λ_ _ z=>z.mono L) λI J c E v2 Z l B q=>?_;exact⟨v,v2,rfl,Z c E _ (L.trans l) B (((K.mono (L.trans l)).set (Q.mono l)).set q)⟩
end
def By {a:Expr}{b:Expr}{c:Ev}{M:Ev}(H:zw X xr a c)(h:zw X xr b M):zw X xr (.BinOp a .Mult b og) (zr Ji c M):=by simp only[zX,N0]at*;exact Ja iI AS BW H h
def DJ {a:Expr}{b:Expr}{n:Ev}{M:Ev}{k:Nat}(r:jb k X.A)(o:zw X xr a n)(t:zw X xr b M)(s:qR b [] X:=by rfl)
  (e:attributeBase a "index" X.env (eval a X.env)=eval a X.env:=by rfl)
  (w:((backTo oh (starEach [b] X.env)).all (λx=>!x.1)&&(backToKw oh (keywordEach [] X.env)).all (λx=>x.1.isSome)
   && decide ([b].length+([]:cw).length+(if ([]:cw).isEmpty then 0 else 1)<30))=true:=by rfl)(h:(oz.endLine==oh.line)=true:=by rfl):
  zw X xr (.Call (.Attribute a "index" oz) [b] [] oh) (Zt JI n M):=by
 simp only[zX,N0]at*;exact Tb PySem.F.slot_list_index PySem.F.type_list_index (D3 r.units) CF (λl A H x y u v Q S i q p=>by
   unfold JI at p;cases E:qk A 8 u with
   |none=>rw[E]at p;exact p.elim|some D=>
    cases g:qk A 8 v with
    |none=>
     rw[E,g]at p;cases D<;>exact p.elim
    |some d=>
     rw[E,g]at p;cases D with
     |list ds=>
      dsimp only at p;cases f:Z3 (λz=>PyData.eqv z d) ds with
      |none=>rw[f]at p;exact p.elim|some j=>
       rw[f]at p;dsimp only at p
       by_cases c:j<1000000
       ·rw[aj c]at p
        exact⟨l,A,u,v,y,d,ds,j,rfl,S,i,q,E,g,f,c,p l H _ .refl S rfl⟩
       ·rw[av c]at p;exact p.elim
     |_=>exact p.elim) o t s e w h
def Pd {m:Ev}{P pos':Pos}(y:X.calm=true)(hm:X.mg "sorted"=none)(c:X.mg "set"=none)(M:zw X xr e m)(J:Gl X "sorted":=by rfl)(f:Gl X "set":=by rfl)(t:qR e [] X:=by rfl)
  (b:starEach [.Call (.Name "set" P) [e] [] pos'] X.env=(false,eval (.Call (.Name "set" P) [e] [] pos') X.env)::starEach [] X.env:=by rfl):
  zw X xr (.Call (.Name "sorted" p) [.Call (.Name "set" P) [e] [] pos'] [] og) (Kx m):=by
 simp only[zX,N0]at*;exact PE.imp (Qs (FA y) J hm (by rfl) (qX (Yv (DB y) f c (by rfl) (qX M jQ t) (by decide) (by decide) t (by rfl)) jQ b) (by decide) (by decide) b (by rfl)) λσ H Q ⟨φ,A,ρ,S,re,h⟩=>by
   refine tM.go S re (zW.mp h) λw A1 a H1 v h1 l1 s C=>?_;unfold Gv at h1;cases E:zK w A1 with
   |none=>rw[E]at h1;exact h1.elim|some ws=>
    rw[E]at h1;dsimp only at h1;obtain⟨q,ys,rfl,z,B⟩:=KC s C E;cases g:intsOf ws with
    |none=>rw[g]at h1;exact h1.elim|some is=>
     rw[g]at h1;dsimp only at h1;have T:=Gn g;subst T;have ev:=zB.ints.mp B;subst ev;cases n:Jc is with
     |none=>rw[n]at h1;exact h1.elim|some vs=>
      rw[n]at h1;dsimp only at h1;obtain⟨Y,N⟩:=PJ n;have j:kq (QH w) X.K H1 q (vs.map λ(v:Nat)=>V.int (v:Int)):=by rw[Y,aU]at z;exact z
      refine⟨_,q,vs,rfl,j,N,λl x=>⟨l,vs.foldl yJ 0,rfl,jD,λD d=>?_⟩⟩;have ln:Le X.K a H1 a (upd H1 l (.ext λh=>yX h l (j5 X.w) (vs.foldl yJ 0))):=Le.new x;have S2:=s.lay (u:=.ext λh=>yX h l (j5 X.w) (vs.foldl yJ 0)) x;have r:∀(ψ:b8)(G:Hp),zB X.K ψ G (((List.range 8).filter λi=>decide (i∈vs)).map λ(i:Nat)=>W.int (i:Int)) ((qd (vs.foldl yJ 0)).map λ(v:Nat)=>V.int (v:Int)):=λψ G=>by
       rw[DF];have U:∀l:cb,zB X.K ψ G (l.map λ(i:Nat)=>W.int (i:Int)) (l.map λ(v:Nat)=>V.int (v:Int)):=λl=>by
        induction l with|nil=>rfl|cons i l I=>exact⟨_,_,rfl,rfl,I⟩
       exact U _
      obtain⟨L,Z⟩:=S2.alloc (o:=.lst (((List.range 8).filter λi=>decide (i∈vs)).map λ(i:Nat)=>W.int (i:Int))) d (u:=.lst ((qd (vs.foldl yJ 0)).map λ(v:Nat)=>V.int (v:Int))) ⟨_,jD,r _ _⟩;exact h1 _ _ _ (l1.trans (ln.trans L)) Z ⟨D,rfl,by rw[<- s.len];simp⟩
def Bc {a:Expr}{b:Expr}{f:Ev}{M:Ev}(c:X.calm=true)(g:X.mg "sum"=none)(e:zw X xr a f)(d:zw X xr b M)(H:Gl X "sum":=by rfl)(j:qR a [b] X:=by rfl)
  (i:qR b [] X:=by rfl)(h:kS og [b] X:=by rfl):
  zw X xr (.Call (.Name "sum" p) [a,b] [] og) (zr Jk f M):=by
 simp only[zX,N0]at*;exact Tf (Cd c) iZ Bj g (by rfl) e d H (by decide) (by decide) j i h
def EL {a:Expr}{b:Expr}{ma:Ev}{M:Ev}{P pos':Pos}(C:X.calm=true)(hm:X.mg "list"=none)(g:X.mg "range"=none)(E:zw X xr a ma)(D:zw X xr b M)(B:Gl X "list":=by rfl)(n:Gl X "range":=by rfl)(s:starEach [a,b] X.env=[(false,eval a X.env),(false,eval b X.env)]:=by rfl)(c:starEach [b] X.env=[(false,eval b X.env)]:=by rfl)
  (e:starEach [.Call (.Name "range" P) [a,b] [] pos'] X.env=(false,eval (.Call (.Name "range" P) [a,b] [] pos') X.env)::starEach [] X.env:=by rfl):
  zw X xr (.Call (.Name "list" p) [.Call (.Name "range" P) [a,b] [] pos'] [] og) (GW ma M):=by
 simp only[zX,N0]at*;exact PE.imp (Yv (FX C) B hm (by rfl) (qX (CH n g (qX E (qX D jQ (by rw[c];rfl)) (by rw[s,c])) s c) jQ e) (by decide) (by decide) e (by rfl)) λσ H Q ⟨φ,A,ρ,S,re,h⟩=>by
   refine tM.go S re (zW.mp h) λw A1 q H1 v h1 l1 U x=>?_;refine tM.go U (re.mono l1) (qx (zW.mp h1) (λ_ _ z=>z) λ_ _ z=>z.mono l1) λr Z f Y v2 h2 L T u=>?_;cases w with
   |int i=>
    obtain rfl:=x;cases r with
    |int j=>
     obtain rfl:=u;dsimp only at h2
     by_cases d:(jA i&&(jA j&&decide ((j-i).toNat<=zM)))=true
     ·rw[aj d]at h2
      rw[ak,ak,ag]at d;refine⟨i,j,rfl,λp o=>⟨p,i,j,rfl,jD,Q3 d.1,Q3 d.2.1,Qp d.2.2,λl y=>?_⟩⟩;have t:=by
       have:=(zB.ints (K:=X.K) (φ:=f) (H:=upd Y p (.rng i j)) (ns:=(List.range (j-i).toNat).map λ(k:Nat)=>(i+(k:Int))) (vs:=Wb i (j-i).toNat)).mpr (by unfold Wb;simp)
       rw[aU]at this;exact this
      obtain⟨N,J,I⟩:=Je (T.lay o) y t;exact h2 _ _ _ (((l1.trans L).trans (Le.new o)).trans N) J I
     ·rw[av d]at h2;exact h2.elim
    |_=>exact h2.elim
   |_=>exact h2.elim
@[irreducible] def J2 (X:Cx)(x:XR)(e:Option Expr)(p:Po):Prop:=Mi.SP X x e p
def kD:@J2=@Mi.SP:=by delta J2;rfl
def yD:J2 X xr none yo:=by simp only[zX,N0,kD]at*;exact PO.imp ee λb H Q ⟨a,A,c,S,r,h⟩=>h a H .refl S
def yB {m:Ev}(h:zw X xr e m):J2 X xr (some e) (jY m):=by simp only[zX,N0,kD]at*;exact Mi.Mf h
def yC {m:Ev}{lo hi:Option Expr}{P pu:Po}{o:Pos}(he:zw X xr e m)(B:J2 X xr lo P)(x:J2 X xr hi pu):zw X xr (.Subscript e (.Slice lo hi none o) og) (j7 m P pu):=by
 simp only[zX,N0,kD]at*;exact PE.imp (Ad AR he B x) λσ H Q ⟨φ,A,ρ,S,Z,h⟩=>by
   refine tM.go S Z (zW.mp h) λw A1 f H1 v h1 T E q=>?_;refine⟨f,A1,ρ,E,Z.mono T,qx (zW.mp h1) (λl I h2 d J c D=>?_) λ_ _ z=>z.mono T⟩;refine⟨d,I,ρ,D,(Z.mono T).mono c,qx (zW.mp h2) (λu M g b j i s=>?_) λ_ _ z=>z.mono (T.trans c)⟩;have L:=(T.trans c).trans i;cases w with
   |tup U=>
    obtain⟨a,Y,rfl,t,r⟩:=(q.mono c).mono i;have N:=r.length;refine⟨a,Y,rfl,t,λhw=>?_,λhw p y=>?_⟩
    ·refine g b j _ L s ⟨a,Y,rfl,t,?_⟩
     have:kM U l u=U:=by unfold kM;rw[N,hw.1,hw.2,Nat.sub_zero,List.drop_zero,<- N,bG]
     rw[this];exact r
    ·have n:zB X.K b j (kM U l u) (Y6 Y l u):=by unfold kM Y6;rw[N];exact zB.take _ (zB.drop _ r)
     obtain⟨a1,a2,C⟩:=QA s y n;exact g _ _ _ (L.trans a1) a2 C
   |_=>exact g.elim
def Q5 {a b:Expr}{c M:Ev}(H:zw X xr a c)(h:zw X xr b M):zw X xr (.BinOp a .FloorDiv b og) (zr Xg c M):=by simp only[zX,N0]at*;exact Ja AA Tn (UJ CG λ_ _ _ _=>rfl) H h
def EY {a b:Expr}{U M:Ev}(u:zw X xr a U)(he:zw X xr b M)(s:qR b [] X:=by rfl)
  (c:attributeBase a "index" X.env (eval a X.env)=eval a X.env:=by rfl)
  (d:((backTo oh (starEach [b] X.env)).all (λx=>!x.1)&&(backToKw oh (keywordEach [] X.env)).all (λx=>x.1.isSome)
   && decide ([b].length+([]:cw).length+(if ([]:cw).isEmpty then 0 else 1)<30))=true:=by rfl)(e:(oz.endLine==oh.line)=true:=by rfl):
  zw X xr (.Call (.Attribute a "index" oz) [b] [] oh) (KR YH U M):=by
 simp only[zX,N0]at*;exact PE.imp (fR PySem.F.slot_tuple_index PySem.F.type_tuple_index Cn u (qX he jQ s) c d e s (by rfl)) λσ H Q ⟨φ,A,ρ,S,P,h⟩=>by
   refine tM.go S P (zW.mp h) λw A1 n H1 v Y L B o=>?_;cases w with
   |tup K=>
    obtain⟨p,N,rfl,T,r⟩:=o;refine⟨p,N,rfl,T,?_⟩;refine tM.go B (P.mono L) (qx (zW.mp Y) (λ_ _ z=>z) λ_ _ z=>z.mono L) λi D f C Z E l y q=>?_;unfold YH at E;dsimp only at E
    by_cases J:(ym i&&K.all ym)=true
    ·rw[aj J]at E
     rw[ak]at J;cases g:Jl i K with
     |none=>rw[g]at E;exact E.elim|some j=>
      rw[g]at E;obtain⟨t,I⟩:=PD q J.1 (r.mono l) J.2 g;exact⟨p,N,Z,j,rfl,rfl,l.tp _ _ T,Kq q J.1,t,I,E f C _ (L.trans l) y rfl⟩
    ·rw[av J]at E;exact E.elim
   |_=>exact Y.elim
def Bf (H:X.calm=true)(b:X.mg "min"=none)(a:wI X xr e q)(h:Gl X "min":=by rfl)(c:qR e [] X:=by rfl):
  zw X xr (.Call (.Name "min" p) [e] [] og) (mQ JN q):=by
 simp only[zX,N0]at*;exact Wa (Ck H) AN Ac b (by rfl) a h (by decide) (by decide) c (by rfl)
def Br {d:Int}{c K:Pos}(H:X.calm=true)(f:X.mg "min"=none)(a:wI X xr e q)(h:Gl X "min":=by rfl)(b:qR e [] X:=by rfl):
  zw X xr (.Call (.Name "min" p) [e] [⟨some "default",.Constant (.int d) j c,K⟩] og) (mQ (JM d) q):=by
 simp only[zX,N0]at*;exact PE.imp (i7 H f (qX a jQ b) h b) (mQ.read i6 CY)
def Oo {y:Expr}{m:Ev}{M:Ev}{P:Pos}(E:zw X xr e m)(s:zw X xr y M):zw X xr (.Subscript e (.Slice none none (some y) P) og) (Y2 m M):=by
 simp only[zX,N0]at*;exact PE.imp (i9 E (Mi.Mf s)) λU H Q ⟨T,A,C,S,B,h⟩=>by
   refine tM.go S B (zW.mp h) λw N b Z v I L j q=>?_;refine⟨b,N,C,j,B.mono L,qx (zW.mp I) (λo u x d n l i=>?_) λ_ _ z=>z.mono L⟩;cases w with
   |tup Y=>
    dsimp only at x
    by_cases c:o=some (-1)
    ·rw[aj c]at x
     obtain⟨a,D,rfl,t,r⟩:=q.mono l;refine⟨c,a,D,rfl,t,λp f=>?_⟩
     ·obtain⟨K,J,g⟩:=QA i f (zB.rev r)
      exact x _ _ _ ((L.trans l).trans K) J g
    ·rw[av c]at x;exact x.elim
   |_=>exact x.elim
section
def Kw {t:Lm}{q:Str}{P:Pos}{RF:Nat->List W->Hx->R W}(C:UL X)(hl:Jn X.prog X.w X.K X.mg j q t)(L:Xj X.N X.env.scope t=true)
  (hR:∀base PG,(∀k,Jj X.prog X.w X.K X.mg base (j+1) (PG k) (wZ [t] k))->qv X.prog X.w X.K X.mg base kk x 1 (QQ PG RF))(hr:jb kk X.A)
  (hB:BMain X.mg X.base)(f:X.env.code=.ref c)(hC:CodeHd X.base c Pt)(d:X.env.qual ++ "<lambda>"=q)(l:defaultsOf t.params X.env=([],[]))(hg:Gl X x:=by rfl)(U:yy x:=by decide)
  (he:starEach [.Lambda t.params t.body t.scope P] X.env=(false,eval (.Lambda t.params t.body t.scope P) X.env)::starEach [] X.env:=by rfl)(T:kS og [] X:=by rfl):
  zw X yd (.Call (.Name x p) [.Lambda t.params t.body t.scope P] [] og) (gz n q Pt t.idx (RF 0)):=by
 simp only[zX,N0,kD]at*;intro n9 s σ H Q I ⟨φ,A,ρ,S,re,h⟩;unfold gz at h;cases E:A[n]? with
 |none=>rw[E]at h;exact h.elim|some o=>cases o with
  |tab q' P'=>
   rw[E]at h;dsimp only at h
   by_cases Y:q'=q/\P'=Pt
   ·rw[aj Y]at h
    cases ec:J0 t.idx ρ with
    |none=>rw[ec]at h;exact h.elim|some ws=>
     rw[ec]at h;obtain⟨fa,fd,ps,F,hm,hk,hb⟩:=hR _ _ (Ov I C hl (Uh L)).2;refine wpAny_Call_Name_kw (KL I hg hm ?_ U);have hS:SA X yd [.Lambda t.params t.body t.scope P] (zi (Y8 n q Pt 0 (Jr X.env q [t] 0)) zq):=Mi.Ni (iC rfl L hB f hC d l) Mi.N4;refine callWith_K (h₀:=X.base) I.ok.mod.kin hk (zT (hS og n9 s σ H (λvs H1=>∃b,Le X.K φ H b H1/\zJ X.K b A H1/\zB X.K b H1 [.clo 0 ws (WJ X.env q [t] σ 0)] vs) I ⟨φ,A,ρ,S,re,?_⟩) λus s1 ⟨vs,H1,B,r1,b,l1,S1,u⟩=>⟨B.kIn,?_⟩) he T
     ·have em:zi (Y8 n q Pt 0 (Jr X.env q [t] 0)) zq ρ A=.ok [.clo 0 [] (Jr X.env q [t] 0)] A:=by
       unfold zi Y8;rw[E];dsimp only;rw[aj Y]
       rfl
      rw[em];intro b H1 vs l1 S1 q1;refine⟨b,l1,S1,?_⟩;obtain⟨v,r',rfl,hv,M⟩:=q1;obtain rfl:r'=[]:=M;obtain⟨a,ob,u0,c0,oc,uc,vs0,rfl,g1,g2,⟨t',et',gp⟩,_⟩:=hv;cases et';obtain⟨J,cv,u⟩:=PL (re.mono l1) ec;exact .one ⟨a,ob,u0,c0,oc,uc,J,rfl,g1,g2,⟨t,rfl,gp,cv⟩,u⟩
     ·obtain⟨e0,hL⟩:=Ov B C hl (Uh L)
      obtain⟨fa',fd',ps',F',i,hk',Z⟩:=hR _ _ hL;rw[hm]at i;cases i;have g:ZD X.K 1 (QQ (WJ X.env q [t] σ) RF) vs H1 Q E0:=by
       refine⟨by rw[<- u.length];rfl,b,A,[.clo 0 ws (WJ X.env q [t] σ 0)],S1,u,?_⟩
       unfold QQ;dsimp only;rw[aj rfl];exact qx h (λ_ _ z=>z.mono l1) λy A2 z D H2 l2 S2=>((z.mono l1) D H2 l2 S2).elim
      refine wpAny_call (codeAny_mono (F'.run X.A X.stack s1 H1 ⟨[]++us,[]⟩ us vs Q E0 hr e0 ?_ r1 g) λr s2 d=>?_)
      ·have:=Z s1 us B.kIn (by rw[bq];exact(by rw[<- r1.length];exact(F'.len _ _ _ _ g)))
       rw[bq]at this;exact this
      ·cases r with
       |error e=>exact False.elim d|ok fl=>
        cases fl with|ret u1=>exact B.after d|next=>exact False.elim d|brk=>exact False.elim d|cont=>exact False.elim d
   ·rw[av Y]at h;exact h.elim
  |_=>rw[E]at h;exact h.elim
variable {K:Frag}{st:Stmt}{k:Nat}{m:Ex}
def MV (F:kx K x x st f fd)(n:nsIn K mainGlobals x=some (some (.ref f)))(t:tabIn K x=some (c,Pt))(a:mg x=some (.ref f))(S:yO N ps (zY st))
  (b:∀(kV d p:Value)(e:cx)(C ct:Value)(u:b0),u.length=ps.length->bindArgs (fnOf x x (gu st) (jJ st) (zY st) .none kV d p e C ct) ⟨u,[]⟩=pure (ps.zip u))
  (h:∀(A:Around)(o:cq)(s:Shared)(H:Hp)(E:XK),jb k (A.deeper (envOfC x (zY st) s.heap.objs.size f (.ref c)))->yv (yV yY P w K mg base N x (zY st) f (.ref c) A o s H E).nox yd (jJ st) m):
  qv P w K mg base (k+1) x ps.length (qg N.length m):=by
 simp only[zX,N0,kD]at*;exact⟨f,fd,ps,j3 F n t S h,a,F.kp,F.binds b⟩
end
def DM {m:Ev}(B:X.calm=true)(J:X.mg "sorted"=none)(j:zw X xr e m)(g:Gl X "sorted":=by rfl)(s:qR e [] X:=by rfl):zw X xr (.Call (.Name "sorted" p) [e] [] og) (UY m):=by
 simp only[zX,N0,kD]at*;exact PE.imp (Qs Ft g J (by rfl) (qX j jQ s) (by decide) (by decide) s (by rfl)) λZ H Q ⟨Y,A,ρ,S,I,h⟩=>by
   refine tM.go S I (zW.mp h) λw U b H1 v C L c q=>?_;cases w with
   |ref n=>
    unfold U0 at C;dsimp only at C;cases E:U[n]? with
    |none=>rw[E]at C;exact C.elim|some u=>cases u with
     |lst D=>
      rw[E]at C;dsimp only at C;obtain⟨P,y,rfl,o,x,d⟩:=c.lst q E;cases i:QD D with
      |none=>rw[i]at C;exact C.elim|some K=>
       rw[i]at C;dsimp only at C;obtain⟨t,N⟩:=OG i;subst t
       by_cases a:K.length<64
       ·rw[aj a]at C
        refine⟨P,y,K,b,rfl,jd.of x,d,N,a,λl zs f r=>?_⟩;obtain⟨T,M,z⟩:=Je c f r;exact C _ _ _ (L.trans T) M z
       ·rw[av a]at C;exact C.elim
     |_=>rw[E]at C;exact C.elim
   |_=>exact C.elim
def qv.up {K:Frag}{k:Nat}{f:Fn}(F:qv P w K mg base j x n f)(h:j<=k:=by decide):qv P w K mg base k x n f:=F.mono h
def jC.up {K:Frag}{k:Nat}{f:Fn}(F:jC P w K mg base j x n f)(h:j<=k:=by decide):jC P w K mg base k x n f:=F.mono h
section
variable {C:List Value->Prop}
theorem WO (h:∀a,C [a]):∀u:b0,u.length=1->C u
 |[a],_=>h a
theorem Kd (h:∀a b,C [a,b]):∀u:b0,u.length=2->C u
 |[a,b],_=>h a b
theorem XI (h:∀a b c,C [a,b,c]):∀u:b0,u.length=3->C u
 |[a,b,c],_=>h a b c
theorem Y9 (h:∀a b c d,C [a,b,c,d]):∀u:b0,u.length=4->C u
 |[a,b,c,d],_=>h a b c d
end
def yk {l:cf}(h:decide l.Nodup=true):l.Nodup:=of_decide_eq_true h
noncomputable def LA (N P:cf)(s:Scope):Bool:=decide (s.kind=.function)&&(!s.isCoroutine&&(!s.isGenerator&&(decide N.Nodup&&(decide (N.take P.length=P)&&(P.all (λx=>decide (s.names.lookup x=some .local) || decide (s.names.lookup x=some .cell))&&s.names.all λy=>!decide (y.2=.free))))))
def QZ {P:cf}(h:LA N P sc=true):yO N P sc:=by unfold LA at h;simp only[ak,ag,not_eq_true',bh,ba,decide_eq_false_iff_not]at h;obtain⟨g,f,e,d,c,b,a⟩:=h;exact⟨g,f,e,d,c,b,λy H=>a y H⟩
section
def kK {i:Expr}{M:Ev}(l:Nat)(C:cb)(w:kO X xr tg i mi)
  (n:∀s H f,gf (jR X N sc s H f yI) tg tw/\ZA (jR X N sc s H f yI) ifs M/\g7 (jR X N sc s H f yI) o6 (⟨tg,i,ifs,0⟩::gs) sc og 0 em)
  (c:X.calm=true:=by rfl)(S:Zi X sc:=by exact cps (by kernel_rfl))(p:QF X.N N sc l C=true:=by kernel_rfl)
  (b:∀g,gs[0]? =some g->g.is_async=0:=by intro _ h;cases h<;>rfl)
  (a:∀x,foldedSetIterable i X.env x=pure x:=by intro _;rfl):Qd X xr (.ListComp o6 (⟨tg,i,ifs,0⟩::gs) sc og) (qC l C mi tw M em):=CN l C c S p w n b a
def yW {d:Nat}(a:zw X yd o6 me)(h:∀e s,X.xe e s->False:=by exactλ_ _ z=>z)(H:om[d+1]? =none:=by rfl):g7 X o6 om sc og d (qi me):=hJ h a H
end
open PySem L2
abbrev zH:Ev:=zA 0
abbrev zU:Ev:=zA 1
abbrev qo:Ev:=zA 2
abbrev qH:Ev:=zA 3
abbrev gi:Ev:=zA 4
abbrev g8:Ev:=zA 5
abbrev Qg:Ev:=zA 6
abbrev XS:Ev:=zA 7
abbrev wG:Ev:=zA 8
abbrev LG:Ev:=zA 9
abbrev qA:Ev:=zE (.int 0)
abbrev qU:Ev:=zE (.int 1)
abbrev kG:Ev:=zE (.int 2)
abbrev gh:Ev:=zE (.int 3)
abbrev QX:Ev:=zE (.int 4)
abbrev k4:Ev:=zE (.int 5)
abbrev k6:Ev:=zE (.int 6)
abbrev Ka:Ev:=zE (.int 7)
abbrev WD:Ev:=zE (.int 8)
abbrev Lo:Ev:=zE (.int 10)
abbrev jm:Ev:=zE (.bl true)
abbrev T9:Ev:=zE (.bl false)
abbrev J3:Ev:=zE .non
abbrev wj:Ex:=zS (kN T9) qj
noncomputable def yz (s:Scope):cf:=(s.names.filter λp=>p.2==.local || p.2==.cell).map (·.1)
noncomputable def Sf (N:cf)(x:Str)(c:cb):cf:=x::c.map λi=>N.getD i Str.empty
noncomputable def Lu (N:cf)(s:Scope)(i:Nat)(x:Str):Bool:=N[i]?==some x&&((s.names.lookup x==some .local || (s.names.lookup x==some .cell || s.names.lookup x==some .free))&&(!(x==("__debug__":Str))&&!(x==("__classdict__":Str))))
noncomputable def LO (N:cf)(s:Scope)(f:Str->Bool)(i:Nat)(x:Str):Bool:=N[i]?==some x&&((s.names.lookup x==some .local || s.names.lookup x==some .cell)&&(f x || s.names.lookup x==some .local))
def zh (i:Nat)(h:Lu X.N X.env.scope i x=true:=by kernel_rfl):zw X xr (.Name x og) (zA i):=by unfold Lu at h;simp only[ak,ba,aL,not_eq_true']at h;exact hH i h.1 h.2.1 h.2.2.1 h.2.2.2
def qf {p:Pos}{m:Ev}(i:Nat)(a:X.N.Nodup)(b:zw X xr e m)(h:LO X.N X.env.scope X.fn i x=true:=by kernel_rfl)(H:swapsWith e (some (.Name x p)) og.line X.env=pure false:=by rfl):yZ X xr (.Assign [.Name x p] e og) (je i m):=by unfold LO at h;simp only[ak,ba,aL]at h;exact hV i a b h.1 h.2.1 H h.2.2
section
variable {oj:Expr}
def qQ (C:cb)(w:kO X xr (.Name x p) oj mi)(g:∀s H f,zw (jR X (Sf X.N x C) sc s H f yI) yd o6 me)
  (d:X.calm=true:=by rfl)(S:Zi X sc:=by exact cps (by kernel_rfl))(a:QF X.N (Sf X.N x C) sc 1 C=true:=by kernel_rfl)(nd:(Sf X.N x C).Nodup:=by exact yk (by kernel_rfl))(b:Loc (relabel sc X.env) x:=by first|exact Or.inl rfl|exact Or.inr rfl)(e:(sc.names.lookup x==some .local || sc.names.lookup x==some .cell)=true:=by rfl)
  (c:∀y,foldedSetIterable oj X.env y=pure y:=by intro _;rfl):Qd X xr (.ListComp o6 [⟨.Name x p,oj,[],0⟩] sc og) (qC 1 C mi (qa 0) jm (qi me)):=
 kK 1 C w (λs H f=>⟨jK 0 nd rfl b (.inl e),gI,yW (g s H f)⟩) d S a (by intro _ h;cases h) c
end
end Mi
namespace G
open PySem L2 Mi
noncomputable def top (i:Nat):Stmt:=PySem.Challenge.pw_nearkinds_k51_papers_of_lots.main.body.getD i (.Pass ⟨0,0,0,0⟩)
structure Bu (mg:cn):Prop where
 Fx:mg "ValueError"=none
 U5:mg "abs"=none
 QE:mg "all"=none
 Xd:mg "bool"=none
 Yn:mg "enumerate"=none
 JS:mg "int"=none
 jo:mg "isinstance"=none
 yh:mg "len"=none
 Zo:mg "list"=none
 QG:mg "max"=none
 Xm:mg "min"=none
 jz:mg "range"=none
 Mq:mg "set"=none
 VS:mg "sorted"=none
 Xl:mg "sum"=none
 yR:mg "tuple"=none
 K8:mg "zip"=none
 Pz:∃t,mg "FARTHEST"=some (.int 99 t)
 Fg:∃t,mg "MOST_MIXES"=some (.int 4 t)
 HD:∃t,mg "MOST_PLACES"=some (.int 8 t)
noncomputable abbrev jT:cf:=["NoTable","NotSteady","NoKinds","NoPaper"]
noncomputable abbrev GB:cf:=["NoTable","NotSteady","NoPlace","NoKind","NoMix","NoNumber","NoLot","NoKinds","NoPaper","NoParting","NoClosed","TooMany","NoText","NoLine","NoDeed"]
def jI {K:Frag}(R:GB.all (Jb K jT)=true)(h:GB.contains x=true:=by decide +kernel):Jb K jT x=true:=cF.mp R x (List.contains_iff_mem.mp h)
def Ks {l:List (Str×NameKind)}(h:(l.all λy=>!(y.2==.cell))=true):∀y∈l,y.2≠.cell:=λy H e=>by have q:=cF.mp h y H;rw[e]at q;cases q
def yE {m:Ev}(h:zw X xr e m):SE X xr e m:=by rw[G7]at h;exact h
abbrev RD:Stmt:=top 53
def wJ:yO ["_law_state_here","_law_way","_law_many","_law_wide","_law_high","_law_some","_law_ring","_law_rows","_law_a","_law_near","_law_far"] ["_law_state_here"] (zY RD):=QZ (by kernel_rfl)
abbrev Vq:Stmt:=top 72
def HX:yO ["_law_found","_law_due"] ["_law_found","_law_due"] (zY Vq):=QZ (by kernel_rfl)
def Kl (Z:Fn):Ex:=zS (jx (M8 .tup .lst zU) (zS (jx (ZF (zr jB (wg .tup zH) (wg .tup zU)) (zr jB (wg .lst zH) (wg .lst zU))) wj qj) (zS (jx (zr jB (mQ ja (jc zH)) (mQ ja (jc zU))) wj qj) (zS (kN (mQ Wk (qC 2 [] (Jo zH zU) (yt 0 1) jm (qi (zR Z (zi zH (zi zU zq))))))) qj))) qj) (zS (kN (gT (zr kH zH zU) (zr kH (wg .bl zH) (wg .bl zU)))) qj)
def Vu {K:Frag}{k:Nat}(T:Bu mg)(F:kx K "_law_same" "_law_same" Vq f fd)(a:mg "_law_same"=some (.ref f)){Z:Fn}(ZK:qv P w K mg base k "_law_same" 2 Z):qv P w K mg base (k+1) "_law_same" 2 (qg 2 (Kl Z)):=
 Xw F a HX (λ_ _ _ _ _ _=>Kd λ_ _=>rfl) λc A o s H E h=>zp (qV (yg (kv .tup .lst T.jo T.yR T.Zo (by rfl) (by rfl) (zh 1))) (zp (qV (ZO (Qz (ju (yH h) (kJ .tup T.jo T.yR (by rfl) (zh 0)) (kJ .tup T.jo T.yR (by rfl) (zh 1))) (Q6 (ju (yH h) (kJ .lst T.jo T.Zo (by rfl) (zh 0)) (kJ .lst T.jo T.Zo (by rfl) (zh 1)))))) (zp (zV jj) zy) zy) (zp (qV (ju (yH h) (yf T.yh (jl (zh 0))) (yf T.yh (jl (zh 1)))) (zp (zV jj) zy) zy) (zp (zV (Qt rfl T.QE (jW (kK (N:=["_law_one","_law_other"]) 2 [] (KD rfl T.K8 (zh 0) (zh 1)) (λ_ _ _=>⟨wL 0 1 rfl (yk (by kernel_rfl)),gI,yW (zN ZK h (zf (zh 0) (zf (zh 1) zo)))⟩))))) zy))) zy) (zp (zV (Zl (kL (yr h) (zh 0) (zh 1)) (ZQ (kL (yr h) (kJ .bl T.jo T.Xd (by rfl) (zh 0)) (kJ .bl T.jo T.Xd (by rfl) (zh 1)))))) zy)
abbrev Vg:Stmt:=top 73
def Q0:yO ["_law_call","_law_error","e","_law_marks"] ["_law_call"] (zY Vg):=QZ (by kernel_rfl)
def SY:Ex:=zS (je 3 (qF (zi (yw (kP jT "NoTable") zU) (zi (yw (kP jT "NotSteady") zU) (zi (yw (kP jT "NoPlace") zU) zq))))) (zS (je 3 (zr qw qH (qF (zi (yw (kP jT "NoKind") zU) (zi (yw (kP jT "NoMix") zU) (zi (yw (kP jT "NoNumber") zU) zq)))))) (zS (je 3 (zr qw qH (qF (zi (yw (kP jT "NoLot") zU) (zi (yw (kP jT "NoKinds") zU) (zi (yw (kP jT "NoPaper") zU) zq)))))) (zS (je 3 (zr qw qH (qF (zi (yw (kP jT "NoParting") zU) (zi (yw (kP jT "NoClosed") zU) (zi (yw (kP jT "TooMany") zU) zq)))))) (zS (je 3 (zr qw qH (qF (zi (yw (kP jT "NoText") zU) (zi (yw (kP jT "NoLine") zU) (zi (yw (kP jT "NoDeed") zU) zq)))))) (zS (jx (jF (yw (T7 jT) zU)) (zS (kN J3) qj) qj) (zS (kN (yb (qC 1 [3] (gR (zE (.int 15))) (qa 0) (zr qm zU zH) (qi zH)))) qj))))))
def WZ (PG:gA)(l:Nat->Fn):Ex:=zS (je 1 J3) (zS (Wv 0 1 2 jT PG l) SY)
def Hh {K:Frag}{k:Nat}(T:Bu mg)(C:Qh K jT "NearError")(R:GB.all (Jb K jT)=true)(F:kx K "_law_refused" "_law_refused" Vg f fd)(a:mg "_law_refused"=some (.ref f)){PG:gA}{l:Nat->Fn}(h:kk<=k)(L:∀k,Jj P w K mg base kk (PG k) (l k)):qv P w K mg base (k+1) "_law_refused" 1 (qg 4 (WZ PG l)):=
 Xw F a Q0 (λ_ _ _ _ _ _=>WO λ_=>rfl) λc A o s H E r=>zp (qf 1 Q0.nd wt) (zp (kr L (r.mono h) rfl rfl C.top_at C.top_exc (by decide +kernel) C.under Q0.nd rfl rfl rfl rfl rfl rfl rfl) (zp (qf 3 Q0.nd (qt (zf (wu (C.isx (jI R)) (wz (jI R)) T.jo (zh 1)) (zf (wu (C.isx (jI R)) (wz (jI R)) T.jo (zh 1)) (zf (wu (C.isx (jI R)) (wz (jI R)) T.jo (zh 1)) zo))) (zj (zj (zj zx))))) (zp (qf 3 Q0.nd (qB (zh 3) (qt (zf (wu (C.isx (jI R)) (wz (jI R)) T.jo (zh 1)) (zf (wu (C.isx (jI R)) (wz (jI R)) T.jo (zh 1)) (zf (wu (C.isx (jI R)) (wz (jI R)) T.jo (zh 1)) zo))) (zj (zj (zj zx)))))) (zp (qf 3 Q0.nd (qB (zh 3) (qt (zf (wu (C.isx (jI R)) (wz (jI R)) T.jo (zh 1)) (zf (wu (C.isx (jI R)) (wz (jI R)) T.jo (zh 1)) (zf (wu (C.isx (jI R)) (wz (jI R)) T.jo (zh 1)) zo))) (zj (zj (zj zx)))))) (zp (qf 3 Q0.nd (qB (zh 3) (qt (zf (wu (C.isx (jI R)) (wz (jI R)) T.jo (zh 1)) (zf (wu (C.isx (jI R)) (wz (jI R)) T.jo (zh 1)) (zf (wu (C.isx (jI R)) (wz (jI R)) T.jo (zh 1)) zo))) (zj (zj (zj zx)))))) (zp (qf 3 Q0.nd (qB (zh 3) (qt (zf (wu (C.isx (jI R)) (wz (jI R)) T.jo (zh 1)) (zf (wu (C.isx (jI R)) (wz (jI R)) T.jo (zh 1)) (zf (wu (C.isx (jI R)) (wz (jI R)) T.jo (zh 1)) zo))) (zj (zj (zj zx)))))) (zp (qV (ye (yg (Af C.isv T.jo T.Fx (by rfl) (zh 1)))) (zp (zV wt) zy) zy) (zp (zV (jv (kK (N:=["_law_k","_law_marks"]) 1 [3] (jS rfl T.jz zm) (λ_ _ _=>⟨jK 0 (yk (by kernel_rfl)),Zg (yg (qu (zh 1) (zh 0))),yW (zh 0)⟩)))) zy))))))))
abbrev Jv:Stmt:=top 76
def WQ:yO ["_law_state_here","_law_table","_law_kinds_here","_law_paper","_law_bad","_law_none","_law_odd","_law_thing","_law_due"] ["_law_state_here","_law_table","_law_kinds_here","_law_paper"] (zY Jv):=QZ (by kernel_rfl)
noncomputable abbrev kz:Str:=(("_law_refusals_right":Str)++(".<locals>.":Str))++("<lambda>":Str)
noncomputable abbrev Jx:Str:=(("_law_right":Str)++(".<locals>.":Str))++("<lambda>":Str)
def KI (q:Fn)(Q:Fn):Lm:=Wu (Wx (Wl (Tw (TF ((jJ Jv).getD 2 QB) 0))) 0) ["_law_paper","_law_odd","_law_thing"] [3,6,7] (zR q (zi qo (zi zU (zi zH zq))))
def C2 {K:Frag}{k:Nat}(T:Bu mg){q:Fn}(Y:∀b,jC P w K mg b k "is_paper" 3 q){Q:Fn}(J:∀b,jC P w K mg b k "shows" 3 Q):Jn P w K mg k kz (KI q Q):=
 ⟨⟨rfl,rfl,rfl,Ks (by kernel_rfl)⟩,λ_ _ _ _=>rfl,λb cl a c A o s H E h x=>yE (Qq x (Y b) h (zf (zh 2) (zf (zh 1) (zf (zh 0) zo))))⟩
def KJ (Q:Fn)(q:Fn):Lm:=Wu (Wx (Wl (Tw (TF ((jJ Jv).getD 2 QB) 1))) 0) ["_law_odd","_law_thing"] [6,7] (zR q (zi zU (zi zH (zi J3 zq))))
def AE {K:Frag}{k:Nat}(T:Bu mg){q:Fn}(Y:∀b,jC P w K mg b k "is_paper" 3 q){Q:Fn}(J:∀b,jC P w K mg b k "shows" 3 Q):Jn P w K mg k kz (KJ q Q):=
 ⟨⟨rfl,rfl,rfl,Ks (by kernel_rfl)⟩,λ_ _ _ _=>rfl,λb cl a c A o s H E h x=>yE (Qq x (J b) h (zf (zh 1) (zf (zh 0) (zf wt zo))))⟩
def KG (q:Fn)(Q:Fn):Lm:=Wu (Wx (Wl (Tw ((jJ Jv).getD 4 QB))) 0) ["_law_table","_law_paper","_law_odd"] [1,3,6] (zR q (zi zH (zi qo (zi zU zq))))
def BJ {K:Frag}{k:Nat}(T:Bu mg){q:Fn}(Y:∀b,jC P w K mg b k "is_paper" 3 q){Q:Fn}(J:∀b,jC P w K mg b k "shows" 3 Q):Jn P w K mg k kz (KG q Q):=
 ⟨⟨rfl,rfl,rfl,Ks (by kernel_rfl)⟩,λ_ _ _ _=>rfl,λb cl a c A o s H E h x=>yE (Qq x (Y b) h (zf (zh 0) (zf (zh 2) (zf (zh 1) zo))))⟩
def KQ (Q:Fn)(q:Fn):Lm:=Wu (Wx (Wl (Ln ((jJ Jv).getD 5 QB))) 0) ["_law_table","_law_odd"] [1,6] (zR q (zi zH (zi zU (zi J3 zq))))
def Ap {K:Frag}{k:Nat}(T:Bu mg){q:Fn}(Y:∀b,jC P w K mg b k "is_paper" 3 q){Q:Fn}(J:∀b,jC P w K mg b k "shows" 3 Q):Jn P w K mg k kz (KQ q Q):=
 ⟨⟨rfl,rfl,rfl,Ks (by kernel_rfl)⟩,λ_ _ _ _=>rfl,λb cl a c A o s H E h x=>yE (Qq x (J b) h (zf (zh 0) (zf (zh 1) (zf wt zo))))⟩
def Su (U:Fn)(S:Fn)(Z:Fn)(a:Fn)(w:Fn)(q:Fn)(Q:Fn)(RG:Lm->Nat->List W->Hx->R W)(P:Addr):Ex:=zS (XB 4 5 (zR U (zi zH zq)) (zR w (zi zH zq))) (zS (je 6 (zR S (zi zH (zi (zR Z (zi zU zq)) (zi qo zq))))) (zS (w5 (qJ (qF (zi (qc (zi gi (zi (qF (zi qA zq)) zq))) (zi (qc (zi g8 (zi (qF (zi qU zq)) zq))) zq)))) (yt 7 8) (zS (jx (zr jB (gz 1 kz P (KI q Q).idx (RG (KI q Q) 0)) wG) wj qj) (zS (jx (zr jB (gz 1 kz P (KJ q Q).idx (RG (KJ q Q) 0)) wG) wj qj) qj))) (zS (jx (zR a (zi Qg (zi qU (zi (zr QM (zR Z (zi zU zq)) qU) zq)))) (zS (kN jm) qj) qj) (zS (jx (zr jB (gz 1 kz P (KG q Q).idx (RG (KG q Q) 0)) (qF (zi Ka zq))) wj qj) (zS (kN (zr kH (gz 1 kz P (KQ q Q).idx (RG (KQ q Q) 0)) (qF (zi Ka zq)))) qj)))))
def LW {K:Frag}{k:Nat}(T:Bu mg)(F:kx K "_law_refusals_right" "_law_refusals_right" Jv f fd)(n:nsIn K mainGlobals "_law_refusals_right"=some (some (.ref f)))(g:tabIn K "_law_refusals_right"=some (c,Pt))(i:mg "_law_refusals_right"=some (.ref f))(B:BMain mg base)(C:CodeHd base c Pt){U:Fn}(Ye:qv P w K mg base k "_law_bad_table" 1 U){S:Fn}(Yd:qv P w K mg base k "_law_bent_rising" 3 S){Z:Fn}(kT:qv P w K mg base k "_law_kinds" 1 Z){e:Fn}(Qn:qv P w K mg base k "_law_rising" 3 e){d:Fn}(Kf:qv P w K mg base k "_law_unsteady" 1 d){RG:Lm->Nat->List W->Hx->R W}(a:kk<=k){q:Fn}(XL_is_paper:∀base,jC P w K mg base j "is_paper" 3 q){Q:Fn}(XL_shows:∀base,jC P w K mg base j "shows" 3 Q)(b:∀t base PG,(∀k,Jj P w K mg base (j+1) (PG k) (wZ [t] k))->qv P w K mg base kk "_law_refused" 1 (QQ PG (RG t))):qv P w K mg base (k+1) "_law_refusals_right" 4 (qg 9 (Su U S Z e d q Q RG Pt)):=
 MV F n g i WQ (λ_ _ _ _ _ _=>Y9 λ_ _ _ _=>rfl) λA o s H E h=>zp (kC 4 5 rfl WQ.nd (zN Ye h (zf (zh 0) zo)) (zN Kf h (zf (zh 0) zo))) (zp (qf 6 WQ.nd (zN Yd h (zf (zh 0) (zf (zN kT h (zf (zh 1) zo)) (zf (zh 2) zo))))) (zp (yQ PassesOwn.never rfl (qL (qt (zf (zP (zf (zh 4) (zf (qt (zf zm zo) (zj zx)) zo)) (zj (zj zx))) (zf (zP (zf (zh 5) (zf (qt (zf zm zo) (zj zx)) zo)) (zj (zj zx))) zo)) (zj (zj zx)))) (wL 7 8 rfl WQ.nd) (zp (qV (ju (yH h) (Kw (t:=KI q Q) (KW λ_=>rfl) (C2 T XL_is_paper XL_shows) (by kernel_rfl) (b _) (h.mono a) B rfl C rfl rfl) (zh 8)) (zp (zV jj) zy) zy) (zp (qV (ju (yH h) (Kw (t:=KJ q Q) (KW λ_=>rfl) (AE T XL_is_paper XL_shows) (by kernel_rfl) (b _) (h.mono a) B rfl C rfl rfl) (zh 8)) (zp (zV jj) zy) zy) zy))) (zp (qV (yg (zN Qn h (zf (zh 6) (zf zm (zf (ZR (zN kT h (zf (zh 1) zo)) zm) zo))))) (zp (zV jj) zy) zy) (zp (qV (ju (yH h) (Kw (t:=KG q Q) (KW λ_=>rfl) (BJ T XL_is_paper XL_shows) (by kernel_rfl) (b _) (h.mono a) B rfl C rfl rfl) (qt (zf zm zo) (zj zx))) (zp (zV jj) zy) zy) (zp (zV (kL (yr h) (Kw (t:=KQ q Q) (KW λ_=>rfl) (Ap T XL_is_paper XL_shows) (by kernel_rfl) (b _) (h.mono a) B rfl C rfl rfl) (qt (zf zm zo) (zj zx)))) zy)))))
abbrev W3:Stmt:=top 77
def Ry:yO ["_law_table","_law_kinds_here","_law_many","_law_thing","_law_due"] ["_law_table","_law_kinds_here","_law_many","_law_thing"] (zY W3):=QZ (by kernel_rfl)
def GV (Q:Fn)(q:Fn):Lm:=Wu (Wx (Wl (Ln (TF ((jJ W3).getD 0 QB) 1))) 0) ["_law_table","_law_kinds_here","_law_thing"] [0,1,3] (zR q (zi zH (zi zU (zi qo zq))))
def C8 {K:Frag}{k:Nat}(T:Bu mg){q:Fn}(Y:∀b,jC P w K mg b k "is_paper" 3 q){Q:Fn}(J:∀b,jC P w K mg b k "shows" 3 Q):Jn P w K mg k Jx (GV q Q):=
 ⟨⟨rfl,rfl,rfl,Ks (by kernel_rfl)⟩,λ_ _ _ _=>rfl,λb cl a c A o s H E h x=>yE (Qq x (J b) h (zf (zh 0) (zf (zh 1) (zf (zh 2) zo))))⟩
def RY (w:Fn)(Z:Fn)(a:Fn)(K:Fn)(g:Fn)(q:Fn)(Q:Fn)(RG:Lm->Nat->List W->Hx->R W)(P:Addr):Ex:=zS (jx (jF (zR w (zi zH (zi zU (zi qH zq))))) (zS (jx (jF (zR Z (zi (zR K (zi zH (zi zU (zi qH zq)))) (zi T9 zq)))) wj qj) (zS (kN (zr kH (gz 2 Jx P (GV q Q).idx (RG (GV q Q) 0)) (qF (zi WD zq)))) qj)) qj) (zS (jx (jF (zR Z (zi (zR K (zi zH (zi zU (zi qH zq)))) (zi jm zq)))) wj qj) (zS (je 4 (zR a (zi zH (zi zU (zi qH zq))))) (zS (kN (gT (zr XO gi qo) (zR Z (zi (zR g (zi zH (zi zU (zi qH zq)))) (zi gi zq))))) qj)))
def Fo {K:Frag}{k:Nat}(T:Bu mg)(F:kx K "_law_right" "_law_right" W3 f fd)(n:nsIn K mainGlobals "_law_right"=some (some (.ref f)))(d:tabIn K "_law_right"=some (c,Pt))(i:mg "_law_right"=some (.ref f))(B:BMain mg base)(C:CodeHd base c Pt){X:Fn}(Yh:qv P w K mg base k "_law_is_paper" 3 X){Z:Fn}(ZK:qv P w K mg base k "_law_same" 2 Z){b:Fn}(Ki:qv P w K mg base k "_law_shows" 3 b){o:Fn}(Yr:qv P w K mg base k "is_paper" 3 o){g:Fn}(GS:qv P w K mg base k "shows" 3 g){RG:Lm->Nat->List W->Hx->R W}(a:kk<=k){q:Fn}(XL_is_paper:∀base,jC P w K mg base j "is_paper" 3 q){Q:Fn}(XL_shows:∀base,jC P w K mg base j "shows" 3 Q)(e:∀t base PG,(∀k,Jj P w K mg base (j+1) (PG k) (wZ [t] k))->qv P w K mg base kk "_law_refused" 1 (QQ PG (RG t))):qv P w K mg base (k+1) "_law_right" 4 (qg 5 (RY X Z b o g q Q RG Pt)):=
 MV F n d i Ry (λ_ _ _ _ _ _=>Y9 λ_ _ _ _=>rfl) λA r s H E h=>zp (qV (ye (yg (zN Yh h (zf (zh 0) (zf (zh 1) (zf (zh 3) zo)))))) (zp (qV (ye (yg (zN ZK h (zf (zN Yr h (zf (zh 0) (zf (zh 1) (zf (zh 3) zo)))) (zf jj zo))))) (zp (zV jj) zy) zy) (zp (zV (kL (yr h) (Kw (t:=GV q Q) (KW λ_=>rfl) (C8 T XL_is_paper XL_shows) (by kernel_rfl) (e _) (h.mono a) B rfl C rfl rfl) (qt (zf zm zo) (zj zx)))) zy)) zy) (zp (qV (ye (yg (zN ZK h (zf (zN Yr h (zf (zh 0) (zf (zh 1) (zf (zh 3) zo)))) (zf jj zo))))) (zp (zV jj) zy) zy) (zp (qf 4 Ry.nd (zN Ki h (zf (zh 0) (zf (zh 1) (zf (zh 3) zo))))) (zp (zV (Zl (kL TH (zh 4) (zh 2)) (ZQ (zN ZK h (zf (zN GS h (zf (zh 0) (zf (zh 1) (zf (zh 3) zo)))) (zf (zh 4) zo)))))) zy)))
abbrev Xn:Stmt:=top 78
def Z0:yO ["_law_script","_law_k","_law_state_here","_law_table","_law_wide","_law_turn","_law_kinds_here","_law_many","_law_paper","_law_thing"] ["_law_script"] (zY Xn):=QZ (by kernel_rfl)
def M3 (K:Fn)(w:Fn)(Z:Fn)(f:Fn)(b:Fn)(d:Fn)(a:Fn)(e:Fn)(g:Fn)(c:Fn):Ex:=zS (w5 (gR (zr U3 qU (zr U8 (mQ ja (jc zH)) QX))) (qa 1) (zS (je 2 (zR e (zi zH (zi zU zq)))) (zS (je 3 (zR f (zi qo zq))) (zS (je 4 (zR Z (zi qH zq))) (zS (w5 (gR gh) (qa 5) (zS (je 6 (zR c (zi qo (zi qH zq)))) (zS (je 7 (mQ ja (jc (zr qm (zR w (zi qH (zi Qg zq))) qA)))) (zS (je 8 (mQ Z6 (qC 1 [2,4] (gR (zr qw qU (zR g (zi qo (zi gh zq))))) (qa 0) jm (qi (zR a (zi zU (zi qo zq))))))) (zS (w5 (qJ (qF (zi wG (zi (j7 wG yo (jY qU)) (zi (zR K (zi qo (zi wG zq))) (zi (zR K (zi qo (zi wG zq))) zq)))))) (qa 9) (zS (jx (jF (zR d (zi qH (zi Qg (zi XS (zi LG zq)))))) wj qj) qj)) (zS (jx (jF (zR b (zi qo (zi qH (zi Qg (zi wG zq)))))) wj qj) qj)))))) qj))))) (zS (kN jm) qj)
def o_law {K:Frag}{k:Nat}(T:Bu mg)(F:kx K "law" "law" Xn f fd){i:Fn}(Q2:qv P w K mg base k "_law_bent" 2 i){Y:Fn}(Yg:qv P w K mg base k "_law_greatest" 2 Y){Z:Fn}(kT:qv P w K mg base k "_law_kinds" 1 Z){g:Fn}(Yj:qv P w K mg base k "_law_known" 1 g){b:Fn}(L:qv P w K mg base k "_law_refusals_right" 4 b){d:Fn}(l:qv P w K mg base k "_law_right" 4 d){a:Fn}(Jw:qv P w K mg base k "_law_some_mix" 2 a){e:Fn}(Yk:qv P w K mg base k "_law_state" 2 e){j:Fn}(kf:qv P w K mg base k "_law_take" 2 j){c:Fn}(Yl:qv P w K mg base k "_law_told" 2 c):yu P w K mg base yY (k+1) f fd ["_law_script"] (ZD K 1 (qg 10 (M3 i Y Z g b d a e j c))):=
 hW F Z0 λC A o s H E h=>zp (yQ PassesOwn.never rfl (jS rfl T.jz (CU rfl T.QG zm (OI rfl T.Xm (yf T.yh (jl (zh 0))) zm))) (jK 1 Z0.nd) (zp (qf 2 Z0.nd (zN Yk h (zf (zh 0) (zf (zh 1) zo)))) (zp (qf 3 Z0.nd (zN Yj h (zf (zh 2) zo))) (zp (qf 4 Z0.nd (zN kT h (zf (zh 3) zo))) (zp (yQ PassesOwn.never rfl (jS rfl T.jz zm) (jK 5 Z0.nd) (zp (qf 6 Z0.nd (zN Yl h (zf (zh 2) (zf (zh 3) zo)))) (zp (qf 7 Z0.nd (yf T.yh (jl (qu (zN Yg h (zf (zh 3) (zf (zh 6) zo))) zm)))) (zp (qf 8 Z0.nd (ZN T.yR (jW (qQ [2,4] (jS rfl T.jz (qB zm (zN kf h (zf (zh 2) (zf zm zo))))) (λ_ _ _=>zN Jw h (zf (zh 1) (zf (zh 2) zo))))))) (zp (yQ PassesOwn.never rfl (qL (qt (zf (zh 8) (zf (yC (zh 8) yD (yB zm)) (zf (zN Q2 h (zf (zh 2) (zf (zh 8) zo))) (zf (zN Q2 h (zf (zh 2) (zf (zh 8) zo))) zo)))) (zj (zj (zj (zj zx)))))) (jK 9 Z0.nd) (zp (qV (ye (yg (zN l h (zf (zh 3) (zf (zh 6) (zf (zh 7) (zf (zh 9) zo))))))) (zp (zV jj) zy) zy) zy)) (zp (qV (ye (yg (zN L h (zf (zh 2) (zf (zh 3) (zf (zh 6) (zf (zh 8) zo))))))) (zp (zV jj) zy) zy) zy)))))) zy))))) (zp (zV jj) zy)
def FJ:Fn:=qg 2 (Kl (λ_ _=>.bad))
def RT:Fn :=  FJ
def Fh:Fn:=qg 2 (Kl RT)
def RH:Fn :=  Fh
def Ed:Fn:=qg 2 (Kl RH)
def ZK:Fn :=  Ed
structure Tx (K:Frag):Prop where
 E2:FD K "is_whole" (top 1)
 Eo:FD K "is_rising" (top 5)
 DA:FD K "is_even" (top 27)
 L5:FD K "leaves_no_kind_out" (top 28)
 HH:FD K "count_kinds" (top 30)
 HF:FD K "first_pairs" (top 32)
 HM:FD K "multiply_at" (top 38)
 Hg:FD K "_law_cell_at" (top 48)
 F9:FD K "_law_take" (top 50)
 FE:FD K "_law_named" (top 52)
 Fj:FD K "_law_kinds" (top 55)
 Hz:FD K "_law_square" (top 58)
 HY:FD K "_law_times" (top 59)
 FG:FD K "_law_whole" (top 62)
 Ej:FD K "_law_free" (top 68)
 F0:FD K "is_wholes" (top 2)
 Ib:FD K "is_whole_between" (top 4)
 Hl:FD K "count_shares" (top 31)
 E1:FD K "multiply" (top 37)
 HR:FD K "_law_state" (top 49)
 IE:FD K "_law_mixed_row" (top 51)
 Fs:FD K "_law_plain" RD
 IT:FD K "_law_bent_mix" (top 60)
 H9:FD K "_law_added" (top 61)
 F2:FD K "_law_told" (top 65)
 Ig:FD K "_law_bent_rising" (top 66)
 HJ:FD K "_law_rising" (top 67)
 IL:FD K "_law_greatest" (top 69)
 Hc:FD K "_law_unsteady" (top 70)
 IF:FD K "_law_bad_table" (top 71)
 IQ:FD K "_law_some_mix" (top 74)
 Ip:FD K "is_wholes_below" (top 3)
 Ij:FD K "is_rising_wholes" (top 6)
 Hu:FD K "kind_shares" (top 33)
 Hi:FD K "search_break" (top 34)
 Hr:FD K "count_shown" (top 43)
 IB:FD K "has_paper_form" (top 44)
 Fu:FD K "_law_known" (top 54)
 IV:FD K "_law_is_paper" (top 63)
 FU:FD K "_law_shows" (top 64)
 Vt:FD K "_law_same" Vq
 F7:FD K "_law_bent" (top 75)
 Df:FD K "is_table" (top 26)
 L7:FD K "require_told_kinds" (top 42)
 Ha:FD K "require_table" (top 29)
 Iz:FD K "require_steady" (top 35)
 De:FD K "is_paper" (top 45)
 zbf:FD K "shows" (top 46)
 Hk:FD K "_law_refused" Vg
 LY:FD K "_law_refusals_right" Jv
 FV:FD K "_law_right" W3
 zeg:FD K "law" Xn
 Fp:nsIn K mainGlobals "ValueError"=some none
 zdV:nsIn K mainGlobals "abs"=some none
 ze7:nsIn K mainGlobals "all"=some none
 zbX:nsIn K mainGlobals "bool"=some none
 Ef:nsIn K mainGlobals "enumerate"=some none
 zeh:nsIn K mainGlobals "int"=some none
 Fv:nsIn K mainGlobals "isinstance"=some none
 zen:nsIn K mainGlobals "len"=some none
 zcH:nsIn K mainGlobals "list"=some none
 zem:nsIn K mainGlobals "max"=some none
 zeb:nsIn K mainGlobals "min"=some none
 zbI:nsIn K mainGlobals "range"=some none
 zd1:nsIn K mainGlobals "set"=some none
 Bi:nsIn K mainGlobals "sorted"=some none
 zeK:nsIn K mainGlobals "sum"=some none
 zbx:nsIn K mainGlobals "tuple"=some none
 zep:nsIn K mainGlobals "zip"=some none
 EW:CD K "FARTHEST" 99
 Fc:CD K "MOST_MIXES" 4
 HC:CD K "MOST_PLACES" 8
 zeB:jT.all (G5 K "NearError" ·)=true
 zdX:UB K "NearError"=true
 zdQ:GB.all (Jb K jT)=true
section
variable {K:Frag}
def bu (X:K.In h)(G:h.Ns mainGlobals mg)(T:Tx K):Bu mg:=⟨a8 X G T.Fp,a8 X G T.zdV,a8 X G T.ze7,a8 X G T.zbX,a8 X G T.Ef,a8 X G T.zeh,a8 X G T.Fv,a8 X G T.zen,a8 X G T.zcH,a8 X G T.zem,a8 X G T.zeb,a8 X G T.zbI,a8 X G T.zd1,a8 X G T.Bi,a8 X G T.zeK,a8 X G T.zbx,a8 X G T.zep,(let ⟨t,e⟩:=T.EW;⟨t,bX X G e⟩),(let ⟨t,e⟩:=T.Fc;⟨t,bX X G e⟩),(let ⟨t,e⟩:=T.HC;⟨t,bX X G e⟩)⟩
def cl (T:Tx K):Qh K jT "NearError":=iA T.zeB T.zdX
structure Zz (K:Frag)(h:Heap)(mg:cn):Prop where
 X:K.In h
 G:h.Ns mainGlobals mg
 T:Tx K
 B:Bu mg
 C:Qh K jT "NearError"
def zz (X:K.In h)(G:h.Ns mainGlobals mg)(T:Tx K):Zz K h mg:=⟨X,G,T,bu X G T,cl T⟩
abbrev Gt (l:Nat)(x:Str)(n:Nat)(F:Fn):Prop:=∀{P:Program}{w:World}{K:Frag}{mg:cn}{base h:Heap}(_:Zz K h mg),qv P w K mg base l x n F
abbrev Qm (l:Nat)(x:Str)(n N:Nat):=Σ' m:Ex,Gt l x n (qg N m)
def Gi {l:Nat}{F:Fn}(q:Gt l x n F):Gt l x n (iso F):=λZ=>(q Z).iso
def Gl {l:Nat}{F:Fn}(q:Gt l x n F):Gt l x n (Qb F):=λZ=>(q Z).Qb
abbrev Qx (l:Nat)(x:Str)(n N:Nat):=Σ' m:Ex,∀{P:Program}{w:World}{K:Frag}{mg:cn}{base h:Heap}(_:Zz K h mg),jC P w K mg base l x n (w6 N m)
def gN {t:Stmt}{k N:Nat}{m:Ex}(Z:Zz K h mg)(e:FD K x t)
  (B:∀{f:Addr}{C:Value}{A:Around}{j:cq}{s:Shared}{H:Hp}{E:XK}(_:(yz (zY t)).Nodup),jb k (A.deeper (PyProof.Rows.envOfC x (zY t) s.heap.objs.size f C))->yv (yV yY P w K mg base (yz (zY t)) x (zY t) f C A j s H E).nox yd (jJ t) m)
  (S:yO (yz (zY t)) ((yz (zY t)).take n) (zY t):=by exact QZ (by kernel_rfl))(l:((yz (zY t)).take n).length=n:=by kernel_rfl)(i:(yz (zY t)).length=N:=by kernel_rfl)
  (g:∀(kV D p:Value)(q:cx)(C ct:Value)(u:b0),u.length=n->bindArgs (fnOf x x (gu t) (jJ t) (zY t) .none kV D p q C ct) ⟨u,[]⟩=pure (((yz (zY t)).take n).zip u):=by first|exactλ_ _ _ _ _ _=>WO λ_=>rfl|exactλ_ _ _ _ _ _=>Kd λ_ _=>rfl|exactλ_ _ _ _ _ _=>XI λ_ _ _=>rfl|exactλ_ _ _ _ _ _=>Y9 λ_ _ _ _=>rfl|exactλ_ _ _ _ _ _=>bd5 λ_ _ _ _ _=>rfl):
  qv P w K mg base (k+1) x n (qg N m):=by
 obtain⟨f,v,F,a⟩:=e
 have:=Xw F (bX Z.X Z.G a) S (λa b c d e f u h=>g a b c d e f u (h.trans l)) λc A o s H E r=>B S.nd r
 rw[l,i]at this;exact this
def mq {t:Stmt}{k N:Nat}{m:Ex}(d:∀{K:Frag}{h:Heap}{M:cn},Zz K h M->FD K x t)(B:∀{P:Program}{w:World}{K:Frag}{M:cn}{e h:Heap}{f:Addr}{c:Value}{A:Around}{o:cq}{s:Shared}{H:Hp}{E:XK}(_:Zz K h M)(_:(yz (zY t)).Nodup),jb k (A.deeper (PyProof.Rows.envOfC x (zY t) s.heap.objs.size f c))->yv (yV yY P w K M e (yz (zY t)) x (zY t) f c A o s H E).nox yd (jJ t) m)
  (S:yO (yz (zY t)) ((yz (zY t)).take n) (zY t):=by exact QZ (by kernel_rfl))(g:((yz (zY t)).take n).length=n:=by kernel_rfl)(a:(yz (zY t)).length=N:=by kernel_rfl)
  (b:∀(kV D p:Value)(i:cx)(c ct:Value)(u:b0),u.length=n->bindArgs (fnOf x x (gu t) (jJ t) (zY t) .none kV D p i c ct) ⟨u,[]⟩=pure (((yz (zY t)).take n).zip u):=by first|exactλ_ _ _ _ _ _=>WO λ_=>rfl|exactλ_ _ _ _ _ _=>Kd λ_ _=>rfl|exactλ_ _ _ _ _ _=>XI λ_ _ _=>rfl|exactλ_ _ _ _ _ _=>Y9 λ_ _ _ _=>rfl|exactλ_ _ _ _ _ _=>bd5 λ_ _ _ _ _=>rfl):Qm (k+1) x n N:=⟨m,λZ=>gN Z (d Z) (λn r=>B Z n r) S g a b⟩
def gY {t:Stmt}{k N:Nat}{m:Ex}(Z:Zz K h mg)(e:FD K x t)
  (B:∀{f:Addr}{C:Value}{A:Around}{l:cq}{s:Shared}{H:Hp}{E:XK}(_:(yz (zY t)).Nodup),jb k (A.deeper (PyProof.Rows.envOfC x (zY t) s.heap.objs.size f C))->gW (yV (gm P w) P w K mg base (yz (zY t)) x (zY t) f C A l s H E) s.heap (gD K E)->yv (yV (gm P w) P w K mg base (yz (zY t)) x (zY t) f C A l s H E) (gD K E) (jJ t) m)
  (S:yO (yz (zY t)) ((yz (zY t)).take n) (zY t):=by exact QZ (by kernel_rfl))(p:((yz (zY t)).take n).length=n:=by kernel_rfl)(j:(yz (zY t)).length=N:=by kernel_rfl)
  (i:∀(kV D q:Value)(v:cx)(C ct:Value)(u:b0),u.length=n->bindArgs (fnOf x x (gu t) (jJ t) (zY t) .none kV D q v C ct) ⟨u,[]⟩=pure (((yz (zY t)).take n).zip u):=by first|exactλ_ _ _ _ _ _=>WO λ_=>rfl|exactλ_ _ _ _ _ _=>Kd λ_ _=>rfl|exactλ_ _ _ _ _ _=>XI λ_ _ _=>rfl|exactλ_ _ _ _ _ _=>Y9 λ_ _ _ _=>rfl):
  jC P w K mg base (k+1) x n (w6 N m):=by
 obtain⟨f,y,F,a⟩:=e
 have:=kl F (bX Z.X Z.G a) S (λa b c d e f u h=>i a b c d e f u (h.trans p)) λc A o s H E r g=>B S.nd r g
 rw[p,j]at this;exact this
def gM {t:Stmt}{k:Nat}{m:Ex}(Z:Zz K h mg)(e:FD K x t)(S:yO N ps (zY t))
  (B:∀(f:Addr)(C:Value)(A:Around)(d:cq)(s:Shared)(H:Hp)(E:XK),jb k (A.deeper (PyProof.Rows.envOfC x (zY t) s.heap.objs.size f C))->yv (yV yY P w K mg base N x (zY t) f C A d s H E).nox yd (jJ t) m)
  (b:∀(kV D p:Value)(n:cx)(C ct:Value)(u:b0),u.length=ps.length->bindArgs (fnOf x x (gu t) (jJ t) (zY t) .none kV D p n C ct) ⟨u,[]⟩=pure (ps.zip u):=by first|exactλ_ _ _ _ _ _=>WO λ_=>rfl|exactλ_ _ _ _ _ _=>Kd λ_ _=>rfl|exactλ_ _ _ _ _ _=>XI λ_ _ _=>rfl|exactλ_ _ _ _ _ _=>Y9 λ_ _ _ _=>rfl|exactλ_ _ _ _ _ _=>bd5 λ_ _ _ _ _=>rfl):
  qv P w K mg base (k+1) x ps.length (qg N.length m):=by
 obtain⟨f,g,F,a⟩:=e;exact Xw F (bX Z.X Z.G a) S b λc A o s H E r=>B f c A o s H E r
def Pr:Qm 1 "is_whole" 1 1:=mq (·.T.E2) λZ nd h=>zp (zV (Zl (kJ .int Z.B.jo Z.B.JS (by rfl) (zh 0)) (ZQ (OS (kJ .bl Z.B.jo Z.B.Xd (by rfl) (zh 0)))))) zy
def Ph:Fn:=qg 1 Pr.1
def Yp:Fn :=  Ph
def Pg:Gt 1 "is_whole" 1 Yp:=Pr.2
def R1:Qm 1 "is_rising" 1 1:=mq (·.T.Eo) λZ nd h=>zp (zV (Qt rfl Z.B.QE (jW (kK (N:=["one","other"]) 2 [] (KD rfl Z.B.K8 (zh 0) (yC (zh 0) (yB zm) yD)) (λ_ _ _=>⟨wL 0 1 rfl (yk (by kernel_rfl)),gI,yW (kL Ts (zh 0) (zh 1))⟩))))) zy
def Eh:Fn:=qg 1 R1.1
def Pb:Fn :=  Eh
def El:Gt 1 "is_rising" 1 Pb:=R1.2
def P1:Qm 1 "is_even" 1 5:=mq (·.T.DA) λZ nd h=>zp (yQ PassesOwn.never rfl (YG rfl Z.B.Yn (zh 0)) (wL 1 2 rfl nd) (zp (yQ PassesOwn.never rfl (YG rfl Z.B.Yn (zh 2)) (wL 3 4 rfl nd) (zp (qV (ZO (Qz (ju (yH h) (kL (yr h) (zh 4) zm) (kL (yr h) (zh 1) (zh 3))) (Q6 (ju (yH h) (qu (qu (zh 0) (zh 3)) (zh 1)) (zh 4))))) (zp (zV jj) zy) zy) zy)) zy)) (zp (zV jj) zy)
def DV:Fn:=qg 5 P1.1
def PM:Fn:=iso DV
def DY:Gt 1 "is_even" 1 PM:=Gi P1.2
def Sv:Qm 1 "leaves_no_kind_out" 1 2:=mq (·.T.L5) λZ nd H=>zp (qf 1 nd (jv (kK (N:=["row","kind"]) 2 [] (qL (zh 0)) (λ_ _ _=>⟨jK 0 (yk (by kernel_rfl)),gI,Um (λ_ _ z=>z) rfl rfl (by intro _ h;cases h<;>rfl) (qL (zh 0)) (jK 1 (yk (by kernel_rfl))) gI (yW (zh 1))⟩)))) (zp (zV (Qt rfl Z.B.QE (jW (qQ [1] (jS rfl Z.B.jz (Q4 rfl Z.B.QG (jl (zh 1)))) (λ_ _ _=>hE Lq (zh 0) (zh 1)))))) zy)
def L4:Fn:=qg 2 Sv.1
def Sw:Fn:=iso L4
def L6:Gt 1 "leaves_no_kind_out" 1 Sw:=Gi Sv.2
def Rn:Qm 1 "count_kinds" 1 1:=mq (·.T.HH) λZ nd h=>zp (zV (qB (Q4 rfl Z.B.QG (jW (qQ [] (qL (zh 0)) (λ_ _ _=>Q4 rfl Z.B.QG (jl (zh 0)))))) zm)) zy
def HL:Fn:=qg 1 Rn.1
def Kh:Fn:=iso HL
def W2:Gt 1 "count_kinds" 1 Kh:=Gi Rn.2
def Rz:Qm 1 "first_pairs" 1 6:=mq (·.T.HF) λZ nd h=>zp (qf 1 nd KH) (zp (yQ PassesOwn.never rfl (YG rfl Z.B.Yn (zh 0)) (wL 2 3 rfl nd) (zp (yQ PassesOwn.never rfl (YG rfl Z.B.Yn (zh 3)) (wL 4 5 rfl nd) (zp (ZP (EE (zh 1) (zh 5) (zP (zf (zh 2) (zf (zh 4) zo)) (zj (zj zx))))) zy)) zy)) (zp (zV (zh 1)) zy))
def Rw:Fn:=qg 6 Rz.1
def Vh:Fn:=iso Rw
def Rx:Gt 1 "first_pairs" 1 Vh:=Gi Rz.2
def RA:Qm 1 "multiply_at" 3 3:=mq (·.T.HM) λZ nd H=>zp (zV (Ub rfl Z.B.Xl (jW (kK (N:=["first","row","second","many","other"]) 4 [2] (KD rfl Z.B.K8 (zh 1) (zh 0)) (λ_ _ _=>⟨wL 0 1 rfl (yk (by kernel_rfl)),gI,Um (λ_ _ z=>z) rfl rfl (by intro _ h;cases h<;>rfl) (KD rfl Z.B.K8 (zh 4) (zh 1)) (wL 2 3 rfl (yk (by kernel_rfl))) gI (yW (kA (kA (zh 0) (zh 2)) (zh 3)))⟩))))) zy
def Hs:Fn:=qg 3 RA.1
def Vl:Fn:=iso Hs
def HG:Gt 1 "multiply_at" 3 Vl:=Gi RA.2
def Rg:Qm 1 "_law_cell_at" 2 2:=mq (·.T.Hg) λZ nd h=>zp (qV (ju Ts (zh 1) (yf Z.B.yh (jl (zh 0)))) (zp (zV (qu (zh 0) (zh 1))) zy) zy) (zp (zV zm) zy)
def He:Fn:=qg 2 Rg.1
def Vb:Fn :=  He
def Hd:Gt 1 "_law_cell_at" 2 Vb:=Rg.2
def Vr:Qm 1 "_law_take" 2 4:=mq (·.T.F9) λZ nd h=>zp (qV (yg (qu (zh 0) zm)) (zp (qf 2 nd (JE (qu (zh 0) zm) (zh 1))) (zp (Nt (Q5 (qu (zh 0) zm) (zh 1)) (zh 0) zm) (zp (zV (zh 2)) zy))) zy) (zp (Nt (JE (qB (kA (qu (zh 0) zm) zm) zm) zm) (zh 0) zm) (zp (qf 3 nd (JE (qB (qB (kA (qu (zh 0) zm) (qu (zh 0) zm)) (kA zm (qu (zh 0) zm))) zm) zm)) (zp (qf 3 nd (JE (qB (kA (zh 3) (zh 3)) (kA zm (zh 3))) zm)) (zp (zV (JE (Q5 (zh 3) zm) (zh 1))) zy))))
def Ga:Fn:=qg 4 Vr.1
def kf:Fn:=Qb Ga
def j8:Gt 1 "_law_take" 2 kf:=Gl Vr.2
def RS:Qm 1 "_law_named" 1 2:=mq (·.T.FE) λZ nd h=>zp (qf 1 nd (Pd rfl Z.B.VS Z.B.Mq (Bc rfl Z.B.Xl (jv (qQ [] (qL (zh 0)) (λ_ _ _=>YF Z.B.Zo (jl (zh 0))))) (qt zo zx)))) (zp (zV (ZN Z.B.yR (jW (qQ [1] (qL (zh 0)) (λ_ _ _=>ZN Z.B.yR (jW (qQ [1] (qL (zh 0)) (λ_ _ _=>DJ h (zh 1) (zh 0))))))))) zy)
def FC:Fn:=qg 2 RS.1
def RQ:Fn :=  FC
def Fb:Gt 1 "_law_named" 1 RQ:=RS.2
def RM:Qm 1 "_law_kinds" 1 1:=mq (·.T.Fj) λZ nd h=>zp (zV (qB zm (Q4 rfl Z.B.QG (jW (qQ [] (qL (zh 0)) (λ_ _ _=>Q4 rfl Z.B.QG (jl (zh 0)))))))) zy
def FK:Fn:=qg 1 RM.1
def kT:Fn:=iso FK
def Kk:Gt 1 "_law_kinds" 1 kT:=Gi RM.2
def Rv:Qm 1 "_law_square" 2 2:=mq (·.T.Hz) λZ nd h=>zp (zV (jv (qQ [1] (qL (zh 0)) (λ_ _ _=>jv (qQ [1] (qL (zh 0)) (λ_ _ _=>qu (zh 1) (zh 0))))))) zy
def HE:Fn:=qg 2 Rv.1
def Vk:Fn :=  HE
def Ho:Gt 1 "_law_square" 2 Vk:=Rv.2
def RN:Qm 1 "_law_times" 2 4:=mq (·.T.HY) λZ nd h=>zp (qf 2 nd (qt zo zx)) (zp (yQ PassesOwn.never rfl (qL (zh 0)) (jK 3 nd) (zp (ZP (Ys (zh 2) (jv (qQ [1,3] (jS rfl Z.B.jz (yf Z.B.yh (jl (zh 3)))) (λ_ _ _=>Ub rfl Z.B.Xl (jW (qQ [0,1,2] (jS rfl Z.B.jz (yf Z.B.yh (jl (zh 2)))) (λ_ _ _=>kA (qu (zh 3) (zh 0)) (qu (qu (zh 2) (zh 0)) (zh 1)))))))))) zy)) (zp (zV (zh 2)) zy))
def FL:Fn:=qg 4 RN.1
def Vo:Fn :=  FL
def FN:Gt 1 "_law_times" 2 Vo:=RN.2
def RX:Qm 1 "_law_whole" 1 1:=mq (·.T.FG) λZ nd h=>zp (zV (Zl (kJ .int Z.B.jo Z.B.JS (by rfl) (zh 0)) (ZQ (OS (kJ .bl Z.B.jo Z.B.Xd (by rfl) (zh 0)))))) zy
def HW:Fn:=qg 1 RX.1
def Kj:Fn :=  HW
def RZ:Gt 1 "_law_whole" 1 Kj:=RX.2
def R8:Qm 1 "_law_free" 3 4:=mq (·.T.Ej) λZ nd h=>zp (yQ PassesOwn.never rfl (qL (zh 2)) (jK 3 nd) (zp (qV (ju (yH h) (jv (kK (N:=["_law_other","_law_table","_law_kinds_here","_law_one"]) 1 [0,1,3] (qL (zh 2)) (λ_ _ _=>⟨jK 0 (yk (by kernel_rfl)),Zg (ZO (OY (ju (yH h) (zh 0) (zh 3)) (Ou (NS fJ (qu (qu (zh 1) (zh 3)) (zh 0)) (zh 2))))),yW (zh 0)⟩))) (qt zo zx)) (zp (zV jj) zy) zy) zy)) (zp (zV jj) zy)
def Ec:Fn:=qg 4 R8.1
def Vs:Fn:=iso Ec
def F3:Gt 1 "_law_free" 3 Vs:=Gi R8.2
def Pa:Qm 2 "is_wholes" 2 2:=mq (·.T.F0) λZ nd h=>zp (zV (Zl (kJ .tup Z.B.jo Z.B.yR (by rfl) (zh 0)) (Zl (kL (yr h) (yf Z.B.yh (jl (zh 0))) (zh 1)) (ZQ (Qt rfl Z.B.QE (jW (qQ [] (qL (zh 0)) (λ_ _ _=>zN (Pg Z).up h (zf (zh 0) zo))))))))) zy
def F4:Fn:=qg 2 Pa.1
def Ym:Fn :=  F4
def R5:Gt 2 "is_wholes" 2 Ym:=Pa.2
def Sy:Qm 2 "is_whole_between" 3 3:=mq (·.T.Ib) λZ nd h=>zp (zV (Zl (zN (Pg Z).up h (zf (zh 0) zo)) (ZQ (UN wc wc (zh 1) (zh 0) (zh 2))))) zy
def Ih:Fn:=qg 3 Sy.1
def X5:Fn :=  Ih
def Ii:Gt 2 "is_whole_between" 3 X5:=Sy.2
def Rk:Qm 2 "count_shares" 3 7:=mq (·.T.Hl) λZ nd h=>zp (qf 3 nd (zN (W2 Z).up h (zf (zh 0) zo))) (zp (Vv 4 (N:=["kind","many"]) 1 [3] nd rfl (cps (by kernel_rfl)) (by kernel_rfl) (jS rfl Z.B.jz (zh 3)) (λ_ _ _=>⟨jK 0 (yk (by kernel_rfl)),gI,yW (kA (qt (zf zm zo) (zj zx)) (zh 1))⟩)) (zp (yQ PassesOwn.never rfl (KD rfl Z.B.K8 (qu (zh 0) (zh 1)) (qu (zh 0) (zh 2))) (wL 5 6 rfl nd) (zp (Og (qu (zh 4) (zh 5)) (zh 6) zm) zy)) (zp (zV (ZN Z.B.yR (jW (qQ [] (qL (zh 4)) (λ_ _ _=>ZN Z.B.yR (jl (zh 0))))))) zy)))
def Hm:Fn:=qg 7 Rk.1
def Kg:Fn:=iso Hm
def Ve:Gt 2 "count_shares" 3 Kg:=Gi Rk.2
def Pw:Qm 2 "multiply" 3 3:=mq (·.T.E1) λZ nd h=>zp (zV (ZN Z.B.yR (jW (qQ [1,2] (qL (zh 0)) (λ_ _ _=>zN (HG Z).up h (zf (zh 0) (zf (zh 1) (zf (zh 2) zo)))))))) zy
def EI:Fn:=qg 3 Pw.1
def Vx:Fn :=  EI
def EA:Gt 2 "multiply" 3 Vx:=Pw.2
def RU:Qm 2 "_law_state" 2 3:=mq (·.T.HR) λZ nd h=>zp (qf 2 nd (zN (Hd Z).up h (zf (zh 0) (zf (zh 1) zo)))) (zp (qV (ju TH (zh 2) (V5 zm zm)) (zp (zV (qt (zf (ZR (zh 2) (V5 zm zm)) (zf jj zo)) (zj (zj zx)))) zy) zy) (zp (zV (qt (zf (JE (zh 2) zm) (zf jj zo)) (zj (zj zx)))) zy))
def FT:Fn:=qg 3 RU.1
def Yk:Fn :=  FT
def Fm:Gt 2 "_law_state" 2 Yk:=RU.2
def SU:Qm 2 "_law_mixed_row" 2 4:=mq (·.T.IE) λZ nd h=>zp (qf 2 nd (YF Z.B.Zo (jl (zh 1)))) (zp (qf 3 nd (qt zo zx)) (zp (DZ 1000 PassesOwn.never (ju (yH h) (zh 2) (qt zo zx)) (zp (ZP (Ys (zh 3) (Dn (zh 2) (zN (j8 Z).up h (zf (zh 0) (zf (yf Z.B.yh (jl (zh 2))) zo)))))) zy)) (zp (zV (zh 3)) zy)))
def ID:Fn:=qg 4 SU.1
def X8:Fn :=  ID
def SV:Gt 2 "_law_mixed_row" 2 X8:=SU.2
noncomputable def Vn:Qm 2 "_law_plain" 1 11:=⟨_,λZ=>gM Z Z.T.Fs wJ λf c A o s H E h=>zp (qf 1 wJ.nd (zN (j8 Z).up h (zf (zh 0) (zf zm zo)))) (zp (qf 2 wJ.nd (qu (qt (zf zm (zf zm (zf zm (zf zm (zf zm (zf zm (zf zm (zf zm zo)))))))) (zj (zj (zj (zj (zj (zj (zj (zj zx))))))))) (zN (j8 Z).up h (zf (zh 0) (zf zm zo))))) (zp (qV (ju (yr h) (zh 1) zm) (zp (zV (jv (qQ [2] (jS rfl Z.B.jz (zh 2)) (λ_ _ _=>jv (qQ [0,1] (jS rfl Z.B.jz (zh 1)) (λ_ _ _=>OI rfl Z.B.Xm (V2 Z.B.U5 (ZR (zh 1) (zh 0))) (ZR (zh 2) (V2 Z.B.U5 (ZR (zh 1) (zh 0)))))))))) zy) zy) (zp (qV (ju (yr h) (zh 1) zm) (zp (qf 2 wJ.nd (qu (qt (zf zm (zf zm (zf zm zo))) (zj (zj (zj zx)))) (zN (j8 Z).up h (zf (zh 0) (zf zm zo))))) (zp (zV (jv (qQ [2] (jS rfl Z.B.jz (zh 2)) (λ_ _ _=>jv (qQ [0] (jS rfl Z.B.jz (zh 1)) (λ_ _ _=>qu (qt (zf zm (zf zm (zf zm (zf zm (zf zm (zf zm (zf zm (zf zm zo)))))))) (zj (zj (zj (zj (zj (zj (zj (zj zx))))))))) (Nr (zh 1) (zh 0)))))))) zy)) zy) (zp (qV (ju (yr h) (zh 1) zm) (zp (zV (jv (qQ [2] (jS rfl Z.B.jz (zh 2)) (λ_ _ _=>jv (qQ [0] (jS rfl Z.B.jz (zh 1)) (λ_ _ _=>Kr Z.B.JS (kL (yH h) (zh 1) (zh 0)))))))) zy) zy) (zp (qV (ju (yr h) (zh 1) zm) (zp (kB (qu (qt (zf (zP (zf zm (zf zm zo)) (zj (zj zx))) (zf (zP (zf zm (zf zm zo)) (zj (zj zx))) (zf (zP (zf zm (zf zm zo)) (zj (zj zx))) (zf (zP (zf zm (zf zm zo)) (zj (zj zx))) (zf (zP (zf zm (zf zm zo)) (zj (zj zx))) zo))))) (zj (zj (zj (zj (zj zx)))))) (zN (j8 Z).up h (zf (zh 0) (zf zm zo)))) (wL 3 4 rfl wJ.nd)) (zp (qf 2 wJ.nd (kA (zh 3) (zh 4))) (zp (zV (jv (qQ [2,3] (jS rfl Z.B.jz (zh 2)) (λ_ _ _=>jv (qQ [0,2] (jS rfl Z.B.jz (zh 1)) (λ_ _ _=>qB (Kr Z.B.JS (kL (yH h) (zh 1) (zh 0))) (Kr Z.B.JS (kL (yH h) (Q5 (zh 1) (zh 2)) (Q5 (zh 0) (zh 2)))))))))) zy))) zy) (zp (qV (ju (yr h) (zh 1) zm) (zp (qf 5 wJ.nd (qt (zf (zP (zf zm (zf zm zo)) (zj (zj zx))) (zf (zP (zf zm (zf zm zo)) (zj (zj zx))) (zf (zP (zf zm (zf zm zo)) (zj (zj zx))) (zf (zP (zf zm (zf zm zo)) (zj (zj zx))) (zf (zP (zf zm (zf zm zo)) (zj (zj zx))) (zf (zP (zf zm (zf zm zo)) (zj (zj zx))) zo)))))) (zj (zj (zj (zj (zj (zj zx)))))))) (zp (zV (jv (qQ [5] (qL (zh 5)) (λ_ _ _=>jv (qQ [0] (qL (zh 1)) (λ_ _ _=>ZR zm (yf Z.B.yh (jW (kK (N:=["_law_one","_law_b"]) 1 [0] (qL (zh 1)) (λ_ _ _=>⟨jK 0 (yk (by kernel_rfl)),Zg (NS Lq (zh 0) (zh 1)),yW (zh 0)⟩)))))))))) zy)) zy) (zp (qV (ju (yr h) (zh 1) zm) (zp (qf 2 wJ.nd (qu (qt (zf zm (zf zm (zf zm zo))) (zj (zj (zj zx)))) (zN (j8 Z).up h (zf (zh 0) (zf zm zo))))) (zp (zV (jv (qQ [2] (jS rfl Z.B.jz (zh 2)) (λ_ _ _=>jv (qQ [0] (jS rfl Z.B.jz (zh 1)) (λ_ _ _=>Nr (zh 1) (zh 0))))))) zy)) zy) (zp (qf 3 wJ.nd (qu (qt (zf zm (zf zm (zf zm zo))) (zj (zj (zj zx)))) (zN (j8 Z).up h (zf (zh 0) (zf zm zo))))) (zp (qf 6 wJ.nd (qt (zf zm (zf zm (zf (qu (qt (zf zm (zf zm zo)) (zj (zj zx))) (Kr Z.B.JS (kL (yr h) (zh 3) zm))) (zf zm zo)))) (zj (zj (zj (zj zx)))))) (zp (qf 7 wJ.nd (qt zo zx)) (zp (yQ PassesOwn.never rfl (jS rfl Z.B.jz (kA zm (zh 3))) (jK 8 wJ.nd) (zp (qf 9 wJ.nd (jv (qQ [3,6,8] (jS rfl Z.B.jz (kA zm (zh 3))) (λ_ _ _=>qu (zh 2) (JE (V2 Z.B.U5 (ZR (zh 3) (zh 0))) (zh 1)))))) (zp (qf 10 wJ.nd (jv (qQ [3,8] (jS rfl Z.B.jz (kA zm (zh 3))) (λ_ _ _=>Kr Z.B.JS (kL (yH h) (Q5 (zh 2) (zh 1)) (Q5 (zh 0) (zh 1))))))) (zp (qV (ju (yr h) (zh 1) zm) (zp (ZP (Ys (zh 7) (jv (qQ [9,10] (jS rfl Z.B.jz (kA zm (zh 3))) (λ_ _ _=>qB (kA zm (qu (zh 2) (zh 0))) (qu (zh 1) (zh 0))))))) zy) (zp (ZP (Ys (zh 7) (jv (qQ [9,10] (jS rfl Z.B.jz (kA zm (zh 3))) (λ_ _ _=>hG (ju (yr h) (qu (zh 2) (zh 0)) zm) zm (qu (zh 1) (zh 0))))))) zy)) zy)))) (zp (zV (zh 7)) zy))))))))))))⟩
def HQ:Fn:=qg 11 Vn.1
def RJ:Fn :=  HQ
def Fz:Gt 2 "_law_plain" 1 RJ:=Vn.2
def S8:Qm 2 "_law_bent_mix" 2 5:=mq (·.T.IT) λZ nd h=>zp (qf 2 nd (zN (j8 Z).up h (zf (zh 0) (zf (yf Z.B.yh (jl (zh 1))) zo)))) (zp (qf 3 nd (qu (qt (zf jj (zf wt (zf JF (zf (zP (zf zm zo) (zj zx)) (zf (qt (zf zm zo) (zj zx)) (zf jj zo)))))) (zj (zj (zj (zj (zj (zj zx))))))) (zN (j8 Z).up h (zf (zh 0) (zf zm zo))))) (zp (qf 4 nd (qt (zf (qB (qB (yC (zh 1) yD (yB (zh 2))) (zP (zf (zh 3) zo) (zj zx))) (yC (zh 1) (yB (qB (zh 2) zm)) yD)) (zf (qB (zh 1) (zP (zf zm zo) (zj zx))) (zf (yC (zh 1) (yB zm) yD) (zf (YF Z.B.Zo (jl (zh 1))) (zf wt (zf KH (zf zm (zf (qB (zP (zf (zh 1) zo) (zj zx)) (yC (zh 1) (yB zm) yD)) zo)))))))) (zj (zj (zj (zj (zj (zj (zj (zj zx)))))))))) (zp (zV (qu (zh 4) (zN (j8 Z).up h (zf (zh 0) (zf zm zo))))) zy)))
def II:Fn:=qg 5 S8.1
def Rc:Fn :=  II
def IJ:Gt 2 "_law_bent_mix" 2 Rc:=S8.2
def RL:Qm 2 "_law_added" 2 6:=mq (·.T.H9) λZ nd h=>zp (qf 2 nd (kA (qt (zf zm zo) (zj zx)) (zN (Kk Z).up h (zf (zh 0) zo)))) (zp (yQ PassesOwn.never rfl (qL (zh 1)) (jK 3 nd) (zp (qf 4 nd (zN (Ho Z).up h (zf (zh 0) (zf (zh 3) zo)))) (zp (qf 4 nd (zN (FN Z).up h (zf (zh 4) (zf (zh 4) zo)))) (zp (yQ PassesOwn.never rfl (jS rfl Z.B.jz (yf Z.B.yh (jl (zh 2)))) (jK 5 nd) (zp (Og (zh 2) (zh 5) (qu (qu (zh 4) zm) (EY (qu (zh 0) zm) (zh 5)))) zy)) zy)))) (zp (zV (zh 2)) zy))
def Fw:Fn:=qg 6 RL.1
def RK:Fn:=iso Fw
def RP:Gt 2 "_law_added" 2 RK:=Gi RL.2
def Pc:Qm 2 "_law_told" 2 2:=mq (·.T.F2) λZ nd h=>zp (zV (ZN Z.B.yR (jW (kK (N:=["_law_kind","_law_state_here"]) 1 [0] (Ox rfl Z.B.jz zm (zN (Kk Z).up h (zf (zh 1) zo))) (λ_ _ _=>⟨jK 0 (yk (by kernel_rfl)),Zg (ju (yr h) (zN (j8 Z).up h (zf (zh 1) (zf zm zo))) zm),yW (zh 0)⟩))))) zy
def Eb:Fn:=qg 2 Pc.1
def Yl:Fn :=  Eb
def FY:Gt 2 "_law_told" 2 Yl:=Pc.2
def Sz:Qm 2 "_law_bent_rising" 3 6:=mq (·.T.Ig) λZ nd h=>zp (qf 3 nd (zN (j8 Z).up h (zf (zh 0) (zf (qB (yf Z.B.yh (jl (zh 2))) zm) zo)))) (zp (qf 4 nd (qu (qt (zf (zN (j8 Z).up h (zf (zh 0) (zf (qB (zh 1) zm) zo))) (zf (zh 1) (zf zm (zf (gr zm) (zf jj (zf wt (zf JF (zf (zP (zf zm zo) (zj zx)) (zf jj (zf (V5 zm zm) zo)))))))))) (zj (zj (zj (zj (zj (zj (zj (zj (zj (zj zx))))))))))) (zN (j8 Z).up h (zf (zh 0) (zf zm zo))))) (zp (qf 5 nd (qt (zf (qB (qB (yC (zh 2) yD (yB (zh 3))) (zP (zf (zh 4) zo) (zj zx))) (yC (zh 2) (yB (zh 3)) yD)) (zf (qB (qB (yC (zh 2) yD (yB (zh 3))) (zP (zf (zh 4) zo) (zj zx))) (yC (zh 2) (yB (qB (zh 3) zm)) yD)) (zf (qB (yC (zh 2) yD (yB (zh 3))) (yC (zh 2) (yB (qB (zh 3) zm)) yD)) (zf (YF Z.B.Zo (jl (zh 2))) zo)))) (zj (zj (zj (zj zx)))))) (zp (zV (qu (qB (zh 5) (qt (zf (Oo (zh 2) (gr zm)) (zf (qB (zh 2) (yC (zh 2) (yB (gr zm)) yD)) (zf wt (zf KH (zf zm (zf (zP (zf (zh 2) zo) (zj zx)) (zf (zP zo zx) zo))))))) (zj (zj (zj (zj (zj (zj (zj zx))))))))) (zN (j8 Z).up h (zf (zh 0) (zf zm zo))))) zy)))
def Ie:Fn:=qg 6 Sz.1
def Yd:Fn :=  Ie
def Ic:Gt 2 "_law_bent_rising" 3 Yd:=Sz.2
def Ro:Qm 2 "_law_rising" 3 3:=mq (·.T.HJ) λZ nd h=>zp (qV (ZO (Qz (ye (yg (kJ .tup Z.B.jo Z.B.yR (by rfl) (zh 0)))) (Q6 (ju (yH h) (jv (kK (N:=["_law_one"]) 1 [] (qL (zh 0)) (λ_ _ _=>⟨jK 0 (yk (by kernel_rfl)),Zg (ye (yg (zN (RZ Z).up h (zf (zh 0) zo)))),yW (zh 0)⟩))) (qt zo zx))))) (zp (zV jj) zy) zy) (zp (qV (ju (yH h) (jv (kK (N:=["_law_one","_law_low","_law_high"]) 1 [1,2] (qL (zh 0)) (λ_ _ _=>⟨jK 0 (yk (by kernel_rfl)),Zg (ye (K3 wc wc (zh 1) (zh 0) (zh 2))),yW (zh 0)⟩))) (qt zo zx)) (zp (zV jj) zy) zy) (zp (zV (kL (yr h) (YF Z.B.Zo (jl (zh 0))) (Pd rfl Z.B.VS Z.B.Mq (zh 0)))) zy))
def Hy:Fn:=qg 3 Ro.1
def Qn:Fn :=  Hy
def Ht:Gt 2 "_law_rising" 3 Qn:=Ro.2
def Va:Qm 2 "_law_greatest" 2 5:=mq (·.T.IL) λZ nd h=>zp (qf 2 nd (qt (zf (zP zo zx) zo) (zj zx))) (zp (yQ PassesOwn.never rfl (jS rfl Z.B.jz (yf Z.B.yh (jl (zh 0)))) (jK 3 nd) (zp (qf 2 nd (qB (zh 2) (jv (qQ [3] (qL (zh 2)) (λ_ _ _=>qB (zh 0) (zP (zf (zh 1) zo) (zj zx))))))) zy)) (zp (Vv 2 (N:=["_law_lot","_law_table","_law_kinds_here"]) 1 [0,1] nd rfl (cps (by kernel_rfl)) (by kernel_rfl) (qL (zh 2)) (λ_ _ _=>⟨jK 0 (yk (by kernel_rfl)),Zg (yg (zN (F3 Z).up h (zf (zh 1) (zf (zh 2) (zf (zh 0) zo))))),yW (zh 0)⟩)) (zp (qf 4 nd (Q4 rfl Z.B.QG (jW (qQ [] (qL (zh 2)) (λ_ _ _=>yf Z.B.yh (jl (zh 0))))))) (zp (zV (DM rfl Z.B.VS (jv (kK (N:=["_law_lot","_law_many"]) 1 [4] (qL (zh 2)) (λ_ _ _=>⟨jK 0 (yk (by kernel_rfl)),Zg (ju (yr h) (yf Z.B.yh (jl (zh 0))) (zh 1)),yW (zh 0)⟩))))) zy))))
def IK:Fn:=qg 5 Va.1
def Yg:Fn:=iso IK
def IZ:Gt 2 "_law_greatest" 2 Yg:=Gi Va.2
def S7:Qm 2 "_law_unsteady" 1 2:=mq (·.T.Hc) λZ nd h=>zp (qf 1 nd (qt (zf (zP (zf (zP (zf zm (zf zm (zf zm zo))) (zj (zj (zj zx)))) (zf (zP (zf zm (zf zm (zf zm zo))) (zj (zj (zj zx)))) (zf (zP (zf zm (zf zm (zf zm zo))) (zj (zj (zj zx)))) zo))) (zj (zj (zj zx)))) (zf (zP (zf (zP (zf zm (zf zm (zf zm (zf zm zo)))) (zj (zj (zj (zj zx))))) (zf (zP (zf zm (zf zm (zf zm (zf zm zo)))) (zj (zj (zj (zj zx))))) (zf (zP (zf zm (zf zm (zf zm (zf zm zo)))) (zj (zj (zj (zj zx))))) (zf (zP (zf zm (zf zm (zf zm (zf zm zo)))) (zj (zj (zj (zj zx))))) zo)))) (zj (zj (zj (zj zx))))) zo)) (zj (zj zx)))) (zp (ZP (Ys (zh 1) (zP (zf (zP (zf zm (zf zm (zf zm (zf zm zo)))) (zj (zj (zj (zj zx))))) (zf (zP (zf zm (zf zm (zf zm (zf zm zo)))) (zj (zj (zj (zj zx))))) (zf (zP (zf zm (zf zm (zf zm (zf zm zo)))) (zj (zj (zj (zj zx))))) (zf (zP (zf zm (zf zm (zf zm (zf zm zo)))) (zj (zj (zj (zj zx))))) zo)))) (zj (zj (zj (zj zx))))))) (zp (zV (qu (zh 1) (zN (j8 Z).up h (zf (zh 0) (zf zm zo))))) zy))
def IP:Fn:=qg 2 S7.1
def Kf:Fn :=  IP
def IX:Gt 2 "_law_unsteady" 1 Kf:=S7.2
def X7:Qm 2 "_law_bad_table" 1 2:=mq (·.T.IF) λZ nd h=>zp (qf 1 nd (qt (zf wt (zf zm (zf (zP zo zx) (zf (zP (zf (zP zo zx) zo) (zj zx)) (zf (zP (zf (zP (zf zm zo) (zj zx)) zo) (zj zx)) (zf (qt (zf (qt (zf zm zo) (zj zx)) zo) (zj zx)) (zf (zP (zf (qt (zf zm zo) (zj zx)) zo) (zj zx)) (zf (zP (zf (zP (zf zm zo) (zj zx)) (zf (zP (zf zm zo) (zj zx)) zo)) (zj (zj zx))) (zf (zP (zf (zP (zf zm (zf zm zo)) (zj (zj zx))) (zf (zP (zf zm (zf zm zo)) (zj (zj zx))) zo)) (zj (zj zx))) (zf (zP (zf (zP (zf zm (zf zm zo)) (zj (zj zx))) (zf (zP (zf zm (zf zm zo)) (zj (zj zx))) zo)) (zj (zj zx))) (zf KH zo))))))))))) (zj (zj (zj (zj (zj (zj (zj (zj (zj (zj (zj zx))))))))))))) (zp (qf 1 nd (qB (zh 1) (qt (zf (zP (zf (zP (zf zm (zf zm zo)) (zj (zj zx))) (zf (zP (zf zm (zf zm zo)) (zj (zj zx))) zo)) (zj (zj zx))) (zf (zP (zf (zP (zf jj zo) (zj zx)) zo) (zj zx)) (zf (zP (zf (zP (zf zm (zf jj zo)) (zj (zj zx))) (zf (zP (zf jj (zf zm zo)) (zj (zj zx))) zo)) (zj (zj zx))) (zf (zP (zf (zP (zf zm (zf (gr zm) zo)) (zj (zj zx))) (zf (zP (zf (gr zm) (zf zm zo)) (zj (zj zx))) zo)) (zj (zj zx))) (zf (zP (zf (zP (zf zm (zf zm zo)) (zj (zj zx))) (zf (zP (zf zm (zf zm zo)) (zj (zj zx))) (zf (zP (zf zm (zf zm zo)) (zj (zj zx))) zo))) (zj (zj (zj zx)))) zo))))) (zj (zj (zj (zj (zj zx)))))))) (zp (qf 1 nd (qB (zh 1) (qt (zf (zP (zf (zP (zf zm (zf zm (zf zm zo))) (zj (zj (zj zx)))) (zf (zP (zf zm (zf zm (zf zm zo))) (zj (zj (zj zx)))) (zf (zP (zf zm (zf zm (zf zm zo))) (zj (zj (zj zx)))) zo))) (zj (zj (zj zx)))) (zf JF (zf (zP (zf (zP (zf zm (zf zm (zf zm zo))) (zj (zj (zj zx)))) (zf (zP (zf zm (zf zm (zf zm zo))) (zj (zj (zj zx)))) (zf (zP (zf zm (zf zm (zf zm zo))) (zj (zj (zj zx)))) zo))) (zj (zj (zj zx)))) (zf (zP (zf (zP (zf zm zo) (zj zx)) (zf (zP zo zx) zo)) (zj (zj zx))) (zf (zP (zf zm zo) (zj zx)) zo))))) (zj (zj (zj (zj (zj zx)))))))) (zp (qf 1 nd (qB (zh 1) (qt (zf (zP (zf (zP (zf wt zo) (zj zx)) zo) (zj zx)) (zf (zP (zf (zP (zf zm (zf zm zo)) (zj (zj zx))) (zf (zP (zf zm (zf zm zo)) (zj (zj zx))) zo)) (zj (zj zx))) zo)) (zj (zj zx))))) (zp (zV (qu (zh 1) (zN (j8 Z).up h (zf (zh 0) (zf zm zo))))) zy))))
def SN:Fn:=qg 2 X7.1
def Ye:Fn :=  SN
def IH:Gt 2 "_law_bad_table" 1 Ye:=X7.2
def S6:Qm 2 "_law_some_mix" 2 5:=mq (·.T.IQ) λZ nd h=>zp (qf 2 nd (qu (qt (zf zm (zf zm (zf zm (zf zm zo)))) (zj (zj (zj (zj zx))))) (zN (j8 Z).up h (zf (zh 0) (zf zm zo))))) (zp (qf 3 nd (qt (zf (ZR (zh 2) (zN (j8 Z).up h (zf (zh 0) (zf zm zo)))) zo) (zj zx))) (zp (yQ PassesOwn.never rfl (Ox rfl Z.B.jz zm (zh 1)) (jK 4 nd) (zp (ZP (Ys (zh 3) (kA (zN (j8 Z).up h (zf (zh 0) (zf (qB (zh 2) zm) zo))) (qu (qt (zf zm (zf (gr zm) (zf (gr zm) (zf zm zo)))) (zj (zj (zj (zj zx))))) (zN (j8 Z).up h (zf (zh 0) (zf zm zo))))))) zy)) (zp (zV (ZN Z.B.yR (jl (zh 3)))) zy)))
def I9:Fn:=qg 5 S6.1
def Jw:Fn :=  I9
def IW:Gt 2 "_law_some_mix" 2 Jw:=S6.2
def SH:Qm 3 "is_wholes_below" 3 3:=mq (·.T.Ip) λZ nd h=>zp (zV (Zl (zN (R5 Z).up h (zf (zh 0) (zf (zh 1) zo))) (ZQ (Qt rfl Z.B.QE (jW (qQ [2] (qL (zh 0)) (λ_ _ _=>UN wc Ts zm (zh 0) (zh 1)))))))) zy
def Io:Fn:=qg 3 SH.1
def Ke:Fn :=  Io
def Im:Gt 3 "is_wholes_below" 3 Ke:=SH.2
def X6:Qm 3 "is_rising_wholes" 3 3:=mq (·.T.Ij) λZ nd h=>zp (qV (ye (yg (kJ .tup Z.B.jo Z.B.yR (by rfl) (zh 0)))) (zp (zV jj) zy) zy) (zp (zV (Zl (Qt rfl Z.B.QE (jW (qQ [1,2] (qL (zh 0)) (λ_ _ _=>zN (Ii Z).up h (zf (zh 0) (zf (zh 1) (zf (zh 2) zo))))))) (ZQ (zN (El Z).up h (zf (zh 0) zo))))) zy)
def Il:Fn:=qg 3 X6.1
def ZI:Fn :=  Il
def L9:Gt 3 "is_rising_wholes" 3 ZI:=X6.2
def Rm:Qm 3 "kind_shares" 1 3:=mq (·.T.Hu) λZ nd h=>zp (qf 1 nd (zN (Rx Z).up h (zf (zh 0) zo))) (zp (Vv 2 (N:=["kind","firsts"]) 1 [1] nd rfl (cps (by kernel_rfl)) (by kernel_rfl) (jS rfl Z.B.jz (zN (W2 Z).up h (zf (zh 0) zo))) (λ_ _ _=>⟨jK 0 (yk (by kernel_rfl)),gI,yW (Ce h (zh 1) (zh 0))⟩)) (zp (zV (jv (kK (N:=["a","b","table"]) 2 [0] (qL (zh 2)) (λ_ _ _=>⟨wL 0 1 rfl (yk (by kernel_rfl)),gI,yW (zN (Ve Z).up h (zf (zh 2) (zf (zh 0) (zf (zh 1) zo))))⟩)))) zy))
def Hw:Fn:=qg 3 Rm.1
def Ru:Fn:=iso Hw
def RC:Gt 3 "kind_shares" 1 Ru:=Gi Rm.2
def Ri:Qm 3 "search_break" 1 9:=mq (·.T.Hi) λZ nd h=>zp (yQ PassesOwn.never rfl (Cj (zN (Rx Z).up h (zf (zh 0) zo))) (DL 1 2 3 rfl nd) (zp (qf 4 nd (zN (Ve Z).up h (zf (zh 0) (zf (zh 2) (zf (zh 3) zo))))) (zp (yQ PassesOwn.never rfl (YG rfl Z.B.Yn (zh 0)) (wL 5 6 rfl nd) (zp (yQ PassesOwn.never rfl (YG rfl Z.B.Yn (zh 6)) (wL 7 8 rfl nd) (zp (qV (ZO (OY (ju (yr h) (zh 8) (zh 1)) (Ou (ju (yH h) (zN (Ve Z).up h (zf (zh 0) (zf (zh 5) (zf (zh 7) zo)))) (zh 4))))) (zp (zV (zP (zf (zh 2) (zf (zh 3) (zf (zh 5) (zf (zh 7) zo)))) (zj (zj (zj (zj zx)))))) zy) zy) zy)) zy)) zy))) (zp (zV wt) zy)
def Rj:Fn:=qg 9 Ri.1
def Vf:Fn:=iso Rj
def Hj:Gt 3 "search_break" 1 Vf:=Gi Ri.2
def Rl:Qm 3 "count_shown" 3 6:=mq (·.T.Hr) λZ nd h=>zp (qf 3 nd (jv (qQ [0] (qL (zh 2)) (λ_ _ _=>zN (EA Z).up h (zf (zh 1) (zf (zh 0) (zf (zh 0) zo))))))) (zp (qf 4 nd (jv (qQ [3] (jS rfl Z.B.jz (yf Z.B.yh (jl (zh 0)))) (λ_ _ _=>Ub rfl Z.B.Xl (jW (qQ [0] (qL (zh 1)) (λ_ _ _=>qu (zh 0) (zh 1)))))))) (zp (qf 5 nd (Br rfl Z.B.Xm (jW (qQ [4] (qL (zh 1)) (λ_ _ _=>gr (qu (zh 1) (zh 0))))))) (zp (qV (ju wc (zh 5) zm) (zp (zV wt) zy) zy) (zp (zV (qB (Q5 (qu (zh 4) zm) (zh 5)) zm)) zy))))
def Hv:Fn:=qg 6 Rl.1
def Rt:Fn :=  Hv
def Rp:Gt 3 "count_shown" 3 Rt:=Rl.2
def SX:Qm 3 "has_paper_form" 2 2:=mq (·.T.IB) λZ nd H=>zp (qV (ZO (Qz (ye (yg (kJ .tup Z.B.jo Z.B.yR (by rfl) (zh 1)))) (Q6 (ye (K3 wc wc zm (yf Z.B.yh (jl (zh 1))) (Gu rfl Z.B.Fg.choose_spec)))))) (zp (zV jj) zy) zy) (zp (qV (ye (yg (Qt rfl Z.B.QE (jW (qQ [0] (qL (zh 1)) (λ_ _ _=>zN (R5 Z).up H (zf (zh 0) (zf (zN (W2 Z).up H (zf (zh 1) zo)) zo)))))))) (zp (zV jj) zy) zy) (zp (zV (Qt rfl Z.B.QE (jW (kK (N:=["mix","part"]) 2 [] (qL (zh 1)) (λ_ _ _=>⟨jK 0 (yk (by kernel_rfl)),gI,Um (λ_ _ z=>z) rfl rfl (by intro _ h;cases h<;>rfl) (qL (zh 0)) (jK 1 (yk (by kernel_rfl))) gI (yW (UN wc wc (gr (Gu rfl Z.B.Pz.choose_spec)) (zh 1) (Gu rfl Z.B.Pz.choose_spec)))⟩))))) zy))
def Iw:Fn:=qg 2 SX.1
def SO:Fn :=  Iw
def IC:Gt 3 "has_paper_form" 2 SO:=SX.2
def RI:Qm 3 "_law_known" 1 4:=mq (·.T.Fu) λZ nd h=>zp (qf 1 nd (zN (Fb Z).up h (zf (zN (Fz Z).up h (zf (zh 0) zo)) zo))) (zp (qf 2 nd (zN (SV Z).up h (zf (zh 0) (zf (Dk rfl Z.B.Zo Z.B.jz (yf Z.B.yh (jl (zh 1)))) zo)))) (zp (qf 3 nd (qB (qt (zf zm zo) (zj zx)) (zN (SV Z).up h (zf (zh 0) (zf (EL rfl Z.B.Zo Z.B.jz zm (qB zm (Q4 rfl Z.B.QG (jW (qQ [] (qL (zh 1)) (λ_ _ _=>Q4 rfl Z.B.QG (jl (zh 0)))))))) zo))))) (zp (zV (ZN Z.B.yR (jW (qQ [1,2,3] (qL (zh 2)) (λ_ _ _=>ZN Z.B.yR (jW (qQ [0,1,3] (qL (zh 2)) (λ_ _ _=>qu (zh 3) (qu (qu (zh 2) (zh 1)) (zh 0)))))))))) zy)))
def RW:Fn:=qg 4 RI.1
def Yj:Fn:=Qb RW
def HZ:Gt 3 "_law_known" 1 Yj:=Gl RI.2
def S9:Qm 3 "_law_is_paper" 3 5:=mq (·.T.IV) λZ nd h=>zp (qV (ZO (Qz (ye (yg (kJ .tup Z.B.jo Z.B.yR (by rfl) (zh 2)))) (Qz (ye (K3 wc wc zm (yf Z.B.yh (jl (zh 2))) zm)) (Q6 (ju (yr h) (zh 1) (zP zo zx)))))) (zp (zV jj) zy) zy) (zp (yQ PassesOwn.never rfl (qL (zh 2)) (jK 3 nd) (zp (qV (ZO (Qz (ye (yg (kJ .tup Z.B.jo Z.B.yR (by rfl) (zh 3)))) (Q6 (ju (yH h) (yf Z.B.yh (jl (zh 3))) (zN (Kk Z).up h (zf (zh 0) zo)))))) (zp (zV jj) zy) zy) (zp (qV (ZO (Qz (ju (yH h) (jv (kK (N:=["_law_one"]) 1 [] (qL (zh 3)) (λ_ _ _=>⟨jK 0 (yk (by kernel_rfl)),Zg (ye (yg (zN (RZ Z).up h (zf (zh 0) zo)))),yW (zh 0)⟩))) (qt zo zx)) (Q6 (ju (yH h) (jv (kK (N:=["_law_one"]) 1 [] (qL (zh 3)) (λ_ _ _=>⟨jK 0 (yk (by kernel_rfl)),Zg (ye (K3 wc wc (gr zm) (zh 0) zm)),yW (zh 0)⟩))) (qt zo zx))))) (zp (zV jj) zy) zy) zy))) (zp (qf 4 nd (zN (RP Z).up h (zf (zh 0) (zf (zh 2) zo)))) (zp (zV (kL (yr h) (jv (kK (N:=["_law_kind","_law_found"]) 1 [4] (qL (zh 1)) (λ_ _ _=>⟨jK 0 (yk (by kernel_rfl)),Zg (ju TH (qu (zh 1) (zh 0)) zm),yW (zh 0)⟩))) (qt zo zx))) zy)))
def IM:Fn:=qg 5 S9.1
def Yh:Fn :=  IM
def IS:Gt 3 "_law_is_paper" 3 Yh:=S9.2
def RO:Qm 3 "_law_shows" 3 4:=mq (·.T.FU) λZ nd h=>zp (qf 3 nd (zN (RP Z).up h (zf (zh 0) (zf (zh 2) zo)))) (zp (zV (qB zm (Q5 (qu (zh 3) zm) (Bf rfl Z.B.Xm (jW (qQ [3] (qL (zh 1)) (λ_ _ _=>ZR zm (qu (zh 1) (zh 0))))))))) zy)
def FR:Fn:=qg 4 RO.1
def Ki:Fn:=iso FR
def Fe:Gt 3 "_law_shows" 3 Ki:=Gi RO.2
def FO (Z:Zz K h mg):qv P w K mg base 1 "_law_same" 2 RT:=by obtain⟨f,d,F,a⟩:=Z.T.Vt;exact(Vu (k:=0) Z.B F (bX Z.X Z.G a) (iG (ps:=["_law_found","_law_due"]) F (bX Z.X Z.G a) (λ_ _ _ _ _ _=>Kd λ_ _=>rfl)))
def HU (Z:Zz K h mg):qv P w K mg base 2 "_law_same" 2 RH:=by obtain⟨f,d,F,a⟩:=Z.T.Vt;exact(Vu (k:=1) Z.B F (bX Z.X Z.G a) (FO Z))
def Eg (Z:Zz K h mg):qv P w K mg base 3 "_law_same" 2 ZK:=by obtain⟨f,d,F,a⟩:=Z.T.Vt;exact(Vu (k:=2) Z.B F (bX Z.X Z.G a) (HU Z))
def R3:Qm 3 "_law_bent" 2 6:=mq (·.T.F7) λZ nd h=>zp (qf 2 nd (zN (j8 Z).up h (zf (zh 0) (zf (yf Z.B.yh (jl (zh 1))) zo)))) (zp (qf 3 nd (zN (IJ Z).up h (zf (zh 0) (zf (qu (zh 1) (zh 2)) zo)))) (zp (qf 4 nd (qB (yC (qu (zh 1) (zh 2)) yD (yB (gr zm))) (zP (zf (qu (qt (zf zm (zf (gr zm) zo)) (zj (zj zx))) (zN (j8 Z).up h (zf (zh 0) (zf zm zo)))) zo) (zj zx)))) (zp (qf 5 nd (qt (zf (qB (qB (yC (zh 1) yD (yB (zh 2))) (zP (zf (zh 3) zo) (zj zx))) (yC (zh 1) (yB (qB (zh 2) zm)) yD)) (zf (qB (qB (yC (zh 1) yD (yB (zh 2))) (zP (zf (zh 4) zo) (zj zx))) (yC (zh 1) (yB (qB (zh 2) zm)) yD)) (zf (YF Z.B.Zo (jl (zh 1))) (zf (qu (zh 1) (zh 2)) (zf (zP zo zx) zo))))) (zj (zj (zj (zj (zj zx))))))) (zp (qf 5 nd (qB (zh 5) (qt (zf (qB (yC (zh 1) yD (yB (zh 2))) (yC (zh 1) (yB (qB (zh 2) zm)) yD)) (zf (qB (zh 1) (By (yC (zh 1) yD (yB zm)) zm)) (zf (zP (zf (zh 1) zo) (zj zx)) (zf wt (zf KH (zf zm (zf (Oo (zh 1) (gr zm)) zo))))))) (zj (zj (zj (zj (zj (zj (zj zx)))))))))) (zp (zV (qu (zh 5) (qu (qt (zf zm (zf zm (zf zm (zf zm (zf zm (zf zm (zf zm (zf zm (zf zm (zf zm (zf zm (zf zm (zf zm (zf zm zo)))))))))))))) (zj (zj (zj (zj (zj (zj (zj (zj (zj (zj (zj (zj (zj (zj zx))))))))))))))) (zN (j8 Z).up h (zf (zh 0) (zf zm zo)))))) zy)))))
def Er:Fn:=qg 6 R3.1
def Q2:Fn :=  Er
def FW:Gt 3 "_law_bent" 2 Q2:=R3.2
def Vy:Qm 4 "is_table" 1 2:=mq (·.T.Df) λZ nd h=>zp (qV (ZO (Qz (ye (yg (kJ .tup Z.B.jo Z.B.yR (by rfl) (zh 0)))) (Q6 (ye (K3 wc wc zm (yf Z.B.yh (jl (zh 0))) (Gu rfl Z.B.HD.choose_spec)))))) (zp (zV jj) zy) zy) (zp (qf 1 nd (yf Z.B.yh (jl (zh 0)))) (zp (qV (ye (yg (Qt rfl Z.B.QE (jW (qQ [1] (qL (zh 0)) (λ_ _ _=>zN (Im Z).up h (zf (zh 0) (zf (zh 1) (zf (zh 1) zo))))))))) (zp (zV jj) zy) zy) (zp (zV (Zl (zN (DY Z).up h (zf (zh 0) zo)) (ZQ (zN (L6 Z).up h (zf (zh 0) zo))))) zy)))
def E3:Fn:=qg 2 Vy.1
def Yq:Fn :=  E3
def EG:Gt 4 "is_table" 1 Yq:=Vy.2
noncomputable def Sx:Qx 4 "require_told_kinds" 2 2:=⟨_,λZ=>gY Z Z.T.L7 λnd h x=>zp (qV (V4 (ye (yg (zN (L9 Z).up h (zf (zh 1) (zf zm (zf (ZR (zN (W2 Z).up h (zf (zh 0) zo)) zm) zo))))))) (zp (Gh x (Z.C.exc "NoKinds" (by decide +kernel)) (zf JF zo) (zj zx)) zy) zy) zy⟩
def X4:Fn:=w6 2 Sx.1
def LX (Z:Zz K h mg):jC P w K mg base 4 "require_told_kinds" 2 X4:=Sx.2 Z
noncomputable def Ra:Qx 5 "require_table" 1 1:=⟨_,λZ=>gY Z Z.T.Ha λnd h x=>zp (qV (V4 (ye (yg (zN (EG Z).up h (zf (zh 0) zo))))) (zp (Gh x (Z.C.exc "NoTable" (by decide +kernel)) (zf JF zo) (zj zx)) zy) zy) zy⟩
def X9:Fn:=w6 1 Ra.1
def IA (Z:Zz K h mg):jC P w K mg base 5 "require_table" 1 X9:=Ra.2 Z
noncomputable def SR:Qx 6 "require_steady" 1 1:=⟨_,λZ=>gY Z Z.T.Iz λnd h x=>zp (ZP (Qq x (IA Z).up h (zf (zh 0) zo))) (zp (qV (V4 (ju O8 (zN (Hj Z).up h (zf (zh 0) zo)) wt)) (zp (Gh x (Z.C.exc "NotSteady" (by decide +kernel)) (zf JF zo) (zj zx)) zy) zy) zy)⟩
def WT:Fn:=w6 1 SR.1
def Iq (Z:Zz K h mg):jC P w K mg base 6 "require_steady" 1 WT:=SR.2 Z
noncomputable def Px:Qx 7 "is_paper" 3 3:=⟨_,λZ=>gY Z Z.T.De λnd h x=>zp (ZP (Qq x (Iq Z).up h (zf (zh 0) zo))) (zp (ZP (Qq x (LX Z).up h (zf (zh 0) (zf (zh 1) zo)))) (OM (zp (zV (Zl (zN (IC Z).up h (zf (zh 0) (zf (zh 2) zo))) (ZQ (kL O8 (zN (Rp Z).up h (zf (zN (RC Z).up h (zf (zh 0) zo)) (zf (zh 1) (zf (zh 2) zo)))) wt)))) zy)))⟩
def wk:Fn:=w6 3 Px.1
def Yr:Fn:=(λw A=>(wk w A).nox)
def Gb (Z:Zz K h mg):jC P w K mg base 7 "is_paper" 3 wk:=Px.2 Z
def E6 (Z:Zz K h mg):qv P w K mg base 7 "is_paper" 3 Yr:=(Gb Z).m
noncomputable def OW:Qx 8 "shows" 3 3:=⟨_,λZ=>gY Z Z.T.zbf λnd h x=>zp (qV (ye (yg (Qq x (Gb Z).up h (zf (zh 0) (zf (zh 1) (zf (zh 2) zo)))))) (zp (Gh x (Z.C.exc "NoPaper" (by decide +kernel)) (zf JF zo) (zj zx)) zy) zy) (OM (zp (zV (zN (Rp Z).up h (zf (zN (RC Z).up h (zf (zh 0) zo)) (zf (zh 1) (zf (zh 2) zo))))) zy))⟩
def Zf:Fn:=w6 3 OW.1
def GS:Fn:=(λw A=>(Zf w A).nox)
def VY (Z:Zz K h mg):jC P w K mg base 8 "shows" 3 Zf:=OW.2 Z
def k7 (Z:Zz K h mg):qv P w K mg base 8 "shows" 3 GS:=(VY Z).m
end
end G
namespace Mi
open PySem L2
abbrev iV (n:Int):Option W:=some (.int n)
abbrev rO (n:Nat):Option W:=some (.ref n)
section
variable {m:Ev}
def wq (h:m ρ A=.ok (.tup ws) A1):qJ m ρ A=.ok ⟨λA i=>(zK (.tup ws) A).map λws=>ws[i]?,ws.length⟩ A1:=by
 unfold qJ Wz;rw[h,zG]
 rfl
def JA (h:m ρ A=.ok (.tup ws) A)(H:ws.length<=zM){g:W->W}(b:∀w∈ws,me (some w::cap.map λi=>(ρ[i]?).join) A=.ok (g w) A):
  qC 1 cap (qJ m) (qa 0) jm (qi me) ρ A=.ok (ws.map g) A:=by
 have e:=gn (item:=λi=>ws.getD i .non) (g:=λi=>g (ws.getD i .non)) (wq h) rfl H
  (λi a=>by show some ws[i]? =_;rw[aa a,ae,aa a];rfl)
  (by show some ws[ws.length]? =_;rw[aw (ax _)])
  (λi a=>by
   have:ws.getD i .non=ws[i]:=by rw[ae,aa a];rfl
   rw[this];exact b _ (aJ a))
 rw[e]
 congr 1
 apply bg
 ·simp
 ·intro i d c
  simp[aa (by simpa using c)]
theorem Ku (p:α->Bool):∀l:List α,Zp (l.map λx=>W.bl (p x))=some (l.map p)
 |[]=>rfl|x::l=>by
  show(match Wm _,Zp _ with|some k,some K=>some _|_,_=>none)=_
  rw[Ku p l];rfl
def GU {p:α->Bool}{l:List α}(h:∀x∈l,p x=true):Wk (l.map λx=>W.bl (p x)) A=.ok (.bl true) A:=by
 show gC _ _ A=_;unfold gC;rw[Ku];dsimp only
 have:(l.map p).all id=true:=by rw[all_map];exact cF.mpr λx H=>h x H
 rw[this]
theorem Q9 {f:α->W}(h:∀x,(f x).nr=true):∀l:List α,qW (l.map f)=true
 |[]=>rfl|x::l=>by show((f x).nr&&qW _)=true;rw[h x,Q9 h l];rfl
def Jq (i j:Int)(A:Hx):kH (.int i) (.int j) A=.ok (.bl (decide (i=j))) A:=by
 show R.ok _ A=_;simp
 rfl
def Sb (i j:Int)(A:Hx):jB (.int i) (.int j) A=.ok (.bl (!decide (i=j))) A:=by
 show R.ok _ A=_;simp
 rfl
def k8 (i j:Bool)(A:Hx):jB (.bl i) (.bl j) A=.ok (.bl (!(i==j))) A:=by cases i<;>cases j<;>rfl
end
def zt (r:bZ):W:=.tup (r.map W.int)
def zC (t:bY):W:=.tup (t.map zt)
def Zk (r:bZ):(zt r).nr=true:=by show qW _=true;exact Q9 (λ_=>rfl) r
def Qw (t:bY):(zC t).nr=true:=by show qW _=true;exact Q9 Zk t
def PY {j:jf}{st:W->Ex}{N:Nat}{item:Nat->W}{I:En->Prop}(t:∀i,i<N->j.at_ A i=some (some (item i)))(H:j.at_ A N=some none)
  (s:∀i,i<N->∀l,I l->∃a,st (item i) l A=.ok (.nx a) A/\I a):∀(n i:Nat)(l:En),i+n=N->I l->∃a,j6 j st n i l A=.ok (.nx a) A/\I a:=by
 intro n
 induction n with
 |zero=>
  intro i l h c
  have:i=N:=by lia
  subst this;exact⟨l,Gg H,c⟩
 |succ n d=>
  intro i l h c;obtain⟨o,E,g⟩:=s i (by lia) l c
  obtain⟨b,e,f⟩:=d (i+1) o (by lia) g
  exact⟨b,(KA (t i (by lia)) E).trans e,f⟩
def Yu {m:Ev}(h:m ρ A=.ok (.tup ws) A1):Y3 m ρ A=.ok (Z7 (.tup ws) ws.length) A1:=by
 unfold Y3;rw[h,zG]
 rfl
def YZ {w:W}(h:ws[i]? =some w):(Z7 (.tup ws) ws.length).at_ A i=some (some (.tup [.int i,w])):=by show atEnd ws i _=_;unfold atEnd;rw[h]
def YR:(Z7 (.tup ws) ws.length).at_ A ws.length=some none:=by show atEnd ws _ _=_;unfold atEnd;rw[aw (ax _)];exact aj rfl
def at2 (t:bY)(a b:Nat):Int:=(t.getD a []).getD b 0
structure zZ (t:bY):Prop where
 n1:1<=t.length
 n8:t.length<=8
 sq:∀r∈t,r.length=t.length
 lo:∀r∈t,∀v∈r,0<=v/\v<(t.length:Int)
 dg:∀a b,a<t.length->b<t.length->(at2 t a b=0↔a=b)
 sy:∀a b,a<t.length->b<t.length->at2 t a b=at2 t b a
 fu:∀k:Nat,(∃v∈t.flatten,(k:Int)<v)->(k:Int)∈t.flatten
section
variable {a b:Nat}
def JL (h:a<t.length):(t.map zt)[a]? =some (zt (t.getD a [])):=by rw[ar,ae,aa h];rfl
def j9 (h:a<t.length):t.getD a []∈t:=by rw[ae,aa h];exact aJ h
def JH (h:a<t.length):qm (zC t) (.int a) A=.ok (zt (t.getD a [])) A:=by
 show(match w9 (t.map zt) _ with|some w=>R.ok w A|none=>R.bad)=_
 rw[GQ (JL h)]
def int_at (h:b<r.length):(r.map W.int)[b]? =some (.int (r.getD b 0)):=by rw[ar,ae,aa h];rfl
def KY (h:b<r.length):qm (zt r) (.int b) A=.ok (.int (r.getD b 0)) A:=by
 show(match w9 (r.map W.int) _ with|some w=>R.ok w A|none=>R.bad)=_
 rw[GQ (v:=.int (r.getD b 0)) (by rw[ar,ae,aa h];rfl)]
end
section
def Ai {j:jf}{c:Option W}(a:∀i,i<ws.length->j.at_ A i=some (some (ws.getD i .non)))(H:j.at_ A ws.length=some none)(n:∀w,me [c,some w] A=.ok w A):
  ∀(f i:Nat)(x:Option W)(d:List W),i+f=ws.length->d.length+f<=zM->∃y,qT j (qa 1) (zE (.bl true)) (qi me) f i [c,x] d A=.ok ([c,y],d++ws.drop i) A:=by
 intro f
 induction f with
 |zero=>
  intro i x d h l
  have:i=ws.length:=by lia
  subst this;refine⟨x,?_⟩;unfold qT;rw[H,bH,bq]
 |succ f I=>
  intro i x d h l;have g:i<ws.length:=by lia
  have E:ws.getD i .non=ws[i]:=by rw[ae,aa g];rfl
  obtain⟨y,e⟩:=I (i+1) _ (d++[ws[i]]) (by lia) (by rw[ai,aA];lia)
  refine⟨y,?_⟩;rw[qT,a i g,E];dsimp only[qa,List.set,zE];rw[zG];have b:qi me [c,some ws[i]] d A=.ok ([c,some ws[i]],d++[ws[i]]) A:=by unfold qi;rw[n,zG,aj (by lia)]
  rw[b,zG];rw[e,aX];rw[List.singleton_append,<- a9 g]
def Cw {j:jf}(b:∀i,i<t.length->j.at_ A i=some (some (zt (t.getD i []))))(H:j.at_ A t.length=some none):
  ∀(f i:Nat)(x y:Option W)(n:List W),i+f=t.length->n.length+(t.drop i).flatten.length<=zM->
   ∃ρ,qT j (qa 0) (zE (.bl true)) (Z4 (qJ (zA 0)) (qa 1) (zE (.bl true)) (qi (zA 1))) f i [x,y] n A=.ok (ρ,n++(t.drop i).flatten.map W.int) A:=by
 intro f
 induction f with
 |zero=>
  intro i x y n h l
  have:i=t.length:=by lia
  subst this;unfold qT;rw[H,bH];simp
 |succ f I=>
  intro i x y n h l;have o:i<t.length:=by lia
  have E:t.getD i []=t[i]:=by rw[ae,aa o];rfl
  have e:=a9 o;rw[e,a3,ai]at l;obtain⟨z,g⟩:=Ai (j:=⟨λA i_1=>(zK (zt t[i]) A).map λs=>s[i_1]?,(t[i].map W.int).length⟩) (me:=zA 1)
   (λk a=>by show some _[k]? =_;rw[ae,aa a];rfl)
   (by show some _[(t[i].map W.int).length]? =_;rw[aw (ax _)])
   (λw=>zl rfl) (t[i].map W.int).length 0 y n (by lia) (by rw[ah];lia)
  obtain⟨ρ,d⟩:=I (i+1) _ z (n++t[i].map W.int) (by lia) (by rw[ai,ah];lia)
  refine⟨ρ,?_⟩;rw[qT,b i o,E];dsimp only[qa,List.set,zE];rw[zG];have c:Z4 (qJ (zA 0)) (qa 1) (zE (.bl true)) (qi (zA 1)) [some (zt t[i]),y] n A=.ok ([some (zt t[i]),z],n++t[i].map W.int) A:=by exact g
  rw[c,zG];rw[d,e,a3,aS,aX]
def k9 {m:Ev}(h:m ρ A=.ok (zC t) A)(H:t.flatten.length<=zM):
  qC 2 [] (qJ m) (qa 0) jm (Z4 (qJ zH) (qa 1) jm (qi zU)) ρ A=.ok (t.flatten.map W.int) A:=by
 have n:(t.map zt).length=t.length:=ah ..;obtain⟨a,e⟩:=Cw (j:=⟨λA i=>(zK (zC t) A).map λw=>w[i]?,(t.map zt).length⟩) (λi b=>by show some _[i]? =_;rw[JL b])
  (by show some _[t.length]? =_;rw[aw (by lia)]) t.length 0 none none [] (by lia) (by simpa using H)
 unfold qC;rw[wq h,zG];show R.bind (R.nox (qT ⟨λA i=>(zK (zC t) A).map λw=>w[i]?,(t.map zt).length⟩ _ _ _ (t.map zt).length 0 [none,none] [] A)) _=_;rw[n]at e ⊢;rw[e]
 rfl
end
theorem Qo:∀l:bZ,intsOf (l.map W.int)=some l
 |[]=>rfl|i::l=>by
  show(match intsOf _ with|some I=>some _|none=>none)=_
  rw[Qo l]
theorem VN:∀(l:bZ)(m:Int),yn l m=m∨yn l m∈l
 |[],_=>.inl rfl|i::l,m=>by
  show yn l _=m∨yn l _∈i::l;rcases VN l (if i > m then i else m) with e|e
  ·by_cases h:i > m
   ·rw[aj h]at e ⊢;exact .inr (by rw[e];exact au ..)
   ·rw[av h]at e ⊢;exact .inl e
  ·exact .inr (ao _ e)
end Mi
namespace G
open PySem L2 Mi
def CZ (h:zZ t):t.flatten.length<=64:=by
 have:∀l:bY,(∀r∈l,r.length<=8)->l.flatten.length<=8 * l.length:=by
  intro l
  induction l with
  |nil=>intro _;simp|cons r l i=>
   intro H;have e:=H r (au ..);have d:=i λb a=>H b (ao _ a);rw[a3,ai,a7];lia
 have c:=h.n8
 have:=this t λr H=>by rw[h.sq r H];exact h.n8
 lia
section
def wK (h:n<1000000):jA (n:Int)=true:=by unfold jA;simp;lia
end
def Q8 {m:Ev}(h:m ρ A=.ok (.ref n) A1)(H:A1[n]? =some (.lst ws)):qJ m ρ A=.ok ⟨λA i=>(zK (.ref n) A).map λws=>ws[i]?,ws.length⟩ A1:=by
 unfold qJ Wz;rw[h,zG];have e:zK (.ref n) A1=some ws:=by unfold zK;dsimp only;rw[H]
 rw[e]
def ZX (h:A[n]? =some (.lst ws)):((zK (.ref n) A).map λws=>ws[i]?)=some ws[i]?:=by
 have e:zK (.ref n) A=some ws:=by unfold zK;dsimp only;rw[h]
 rw[e];rfl
def gB:List Int->Int
 |[]=>0|i::is=>yn is i
def V9 (h:r≠[]):wD (r.map W.int) A=.ok (.int (gB r)) A:=by
 unfold wD;rw[Qo];cases r with|nil=>exact absurd rfl h|cons i I=>rfl
def YA (h:r≠[]):gB r∈r:=by
 cases r with
 |nil=>exact absurd rfl h|cons i I=>
  rcases VN I i with e|e
  ·show yn I i∈_;rw[e];exact au ..
  ·exact ao _ e
def qp (t:bY):Int:=gB (t.map gB)+1
section
def _root_.Mi.zZ.row_ne (h:zZ t)(H:r∈t):r≠[]:=λe=>by have a:=h.sq r H;have b:=h.n1;rw[e,length_nil]at a;lia
def _root_.Mi.zZ.map_ne (h:zZ t):t.map gB≠[]:=λe=>by
 have:=h.n1
 rw[map_eq_nil_iff]at e;rw[e]at this;simp at this
def wU (h:zZ t):1<=qp t/\qp t<=8:=by
 obtain⟨r,H,e⟩:=cC.mp (YA h.map_ne)
 have:=h.lo r H _ (YA (h.row_ne H))
 have:=h.n8
 unfold qp;lia
def Jf (h:zZ t){a b:Nat}(H:a<t.length)(d:b<t.length):0<=at2 t a b/\at2 t a b<8:=by
 have c:=h.sq _ (j9 H)
 have:(t.getD a []).getD b 0∈t.getD a []:=by rw[ae (l:=t.getD a []),aa (by lia)];exact aJ _
 have e:=h.lo _ (j9 H) _ this
 have:=h.n8
 unfold at2;lia
def Z1 (h:q ρ A=.ok ws A1):mQ Z6 q ρ A=.ok (.tup ws) A1:=(jy h).trans rfl
end
end G
namespace Mi
open PySem L2
def jP {w:W}{s:Nat}(h:A[n]? =some (.lst ws))(H:ws[s]? =some w):qm (.ref n) (.int s) A=.ok w A:=by
 unfold qm;have e:zK (.ref n) A=some ws:=by unfold zK;dsimp only;rw[h]
 rw[e];dsimp only;rw[GQ H]
def ji {u:O}(h:A[n]? =some o):(A++[u])[n]? =some o:=by
 have:=(cD.mp h).1
 rw[aq this];exact h
def z0 {u:O}:(A++[u])[A.length]? =some u:=by simp
theorem UQ:∀(n:Nat)(K:bZ),K.Nodup->(∀r∈K,0<=r/\r<(n:Int))->K.length<=n
 |0,K,_,h=>by
  cases K with|nil=>exact ax _|cons r l=>have:=h r (au ..);lia
 |n+1,K,nd,h=>by
  by_cases b:(n:Int)∈K
  ·have d:=UQ n _ (nd.erase _) λr H=>by have c:=h r (List.mem_of_mem_erase H);have a:r≠(n:Int):=λz=>(List.Nodup.mem_erase_iff nd).mp H |>.1 z;lia
   rw[List.length_erase_of_mem b]at d;lia
  ·have:=UQ n K nd λr H=>by have c:=h r H;have a:r≠(n:Int):=λz=>b (z ▸ H);lia
   lia
def Z9 (c:Nat->Nat->Int)(a b:Nat)(k:Int):Nat->Nat->Int:=λi j=>if i=a/\j=b then k else c i j
structure Mu (n:Nat)(μ:Nat->Nat->Int)(c:Nat)(done:Nat->Nat->Prop):Prop where
 dg:∀i,μ i i=0
 sy:∀i j,μ i j=μ j i
 dn:∀i j,i<j->j<n->done i j->1<=μ i j/\μ i j<=(c:Int)
 un:∀i j,i<j->j<n->¬done i j->μ i j=0
 fu:∀k:Nat,1<=k->k<=c->∃i j,i<n/\j<n/\μ i j=(k:Int)
def j0 (n:Nat)(a:Nat->Nat->Int):bY:=(List.range n).map λi=>(List.range n).map (a i)
def JB (H:i<n)(h:j<n):at2 (j0 n μ) i j=μ i j:=by
 unfold at2 j0;rw[ae (l:=(List.range n).map λi=>(List.range n).map (μ i)),ar,aV H];show((List.range n).map (μ i)).getD j 0=_;rw[ae,ar,aV h]
 rfl
def Mu.tab {c:Nat}{d:Nat->Nat->Prop}(h:Mu n μ c d)(all:∀i j,i<j->j<n->d i j)(B:1<=n)(A:n<=8)(y:n=1∨c<n):zZ (j0 n μ):=by
 have len:(j0 n μ).length=n:=by unfold j0;simp
 have val:∀i j,i<n->j<n->i≠j->1<=μ i j/\μ i j<=_:=λi j z H N=>by
  rcases Nat.lt_or_gt_of_ne N with q|q
  ·exact h.dn i j q H (all i j q H)
  ·rw[h.sy];exact h.dn j i q z (all j i q z)
 have mem:∀r∈j0 n μ,∀v∈r,∃i j,i<n/\j<n/\v=μ i j:=λr f v o=>by obtain⟨i,z,rfl⟩:=cC.mp f;obtain⟨j,H,rfl⟩:=cC.mp o;exact⟨i,j,cE.mp z,cE.mp H,rfl⟩
 have I:∀i j,i<n->j<n->μ i j∈(j0 n μ).flatten:=λi j z H=>List.mem_flatten.mpr ⟨_,cC.mpr ⟨i,cE.mpr z,rfl⟩,cC.mpr ⟨j,cE.mpr H,rfl⟩⟩;refine⟨by rw[len];exact B,by rw[len];exact A,λr f=>?_,λr f v o=>?_,λa b l g=>?_,λa b l g=>?_,λk x=>?_⟩
 ·rw[len]
  obtain⟨i,z,rfl⟩:=cC.mp f;simp
 ·rw[len]
  obtain⟨i,j,z,H,rfl⟩:=mem r f v o
  by_cases q:i=j
  ·subst q;rw[h.dg];lia
  ·have:=val i j z H q
   lia
 ·rw[len]at l g
  rw[JB l g]
  constructor
  ·intro e
   by_cases q:a=b
   ·exact q
   ·have:=val a b l g q;lia
  ·intro e;subst e;exact h.dg a
 ·rw[len]at l g
  rw[JB l g,JB g l];exact h.sy a b
 ·obtain⟨v,o,t⟩:=x
  obtain⟨r,f,p⟩:=List.mem_flatten.mp o;obtain⟨i,j,z,H,rfl⟩:=mem r f v p
  by_cases K:k=0
  ·subst K
   have:=I 0 0 (by lia) (by lia)
   rw[h.dg]at this;exact this
  ·by_cases q:i=j
   ·subst q;rw[h.dg]at t;lia
   ·have:=val i j z H q
    obtain⟨w,J,u,s,e⟩:=h.fu k (by lia) (by lia)
    have:=I w J u s
    rw[e]at this;exact this
end Mi
namespace G
open PySem L2 Mi
def YN {i j:Int}(H:-(2 ^ 64)<i)(h:i<2 ^ 64):jE (.int i) (.int j) A=.ok (.int (i * j)) A:=by unfold jE;dsimp only;rw[aj];unfold JZ;rw[ba,ak,ag,ag];exact .inl ⟨H,h⟩
def YL {i j:Int}(h:0<j):YX (.int i) (.int j) A=.ok (.int (i%j)) A:=by unfold YX QS;dsimp only;rw[aj];exact aC h
def Xc {i j:Int}(h:0<j)(H:j<1152921504606846976):Xg (.int i) (.int j) A=.ok (.int (i/j)) A:=by unfold Xg QS;dsimp only;rw[aj];unfold Xq;rw[ak,ag,ag];exact⟨h,H⟩
def lb {c m:Int}(h:0<m)(H:m<1000000000000000):Ga [.ref 0,.int m] [.lst [.int c,.bl true]]=.ok (.int (c%m)) [.lst [.int (c/m),.bl true]]:=by
 refine qe ?_;refine zL ?_;refine(zD (ρ1:=[rO 0,iV m,iV (c%m),none]) (A1:=[.lst [.int c,.bl true]]) ?_).trans ?_
 ·refine(ql ?_).trans rfl
  exact(zF rfl rfl).trans (YL h)
 ·refine(zD (ρ1:=[rO 0,iV m,iV (c%m),none]) ?_).trans rfl
  have e:zr Xg (zr qm zH qA) zU [rO 0,iV m,iV (c%m),none] [.lst [.int c,.bl true]]=.ok _ [.lst [.int c,.bl true]]:=
   (zF rfl rfl).trans (Xc h (by lia))
  unfold Xe;rw[e,zG]
  rfl
def Ju (c:Int):Int:=(c * 48271+29)%2147483647
def g0 (d:Int):Int:=(d * d+39373 * d+7)%2147483629
def Js (e:Int):Int:=(e * e+16807 * e)%2147483587
def Te (c:Int):0<=Ju c/\Ju c<2147483647:=⟨emod_nonneg _ (by decide),bT _ (by decide)⟩
def lg (c:Int):0<=g0 c/\g0 c<2147483629:=⟨emod_nonneg _ (by decide),bT _ (by decide)⟩
def lh {c m:Int}(H:0<=c)(h:c<2147483647)(j:0<m)(l:m<1000000000000000):Ga [.ref 0,.int m] [.lst [.int c,.bl false]]=.ok (.int (Js (g0 (Ju c))/8%m)) [.lst [.int (Ju c),.bl false]]:=by
 have g:=Te c;refine qe ?_;dsimp only[Vr,mq];refine(zD (ρ1:=[rO 0,iV m,none,none]) ((q9 rfl).trans rfl)).trans ?_;have f:zr YX (zr qw (zr jE (zr qm zH qA) (zE (.int 48271))) (zE (.int 29))) (zE (.int 2147483647)) [rO 0,iV m,none,none] [.lst [.int c,.bl false]]=.ok (.int (Ju c)) [.lst [.int c,.bl false]]:=by
  have i:zr jE (zr qm zH qA) (zE _) [rO 0,iV m,none,none] [.lst [.int c,.bl false]]=.ok (.int (c * 48271)) [.lst [.int c,.bl false]]:=
   (zF rfl rfl).trans (YN (by lia) (by lia))
  refine(zF ((zF i rfl).trans rfl) rfl).trans ?_;exact YL (by decide)
 refine(zD (ρ1:=[rO 0,iV m,none,none]) (A1:=[.lst [.int (Ju c),.bl false]]) ?_).trans ?_
 ·unfold Xe
  rw[f,zG]
  rfl
 generalize Ju c=d at*;have b:zr YX (zr qw (zr qw (zr jE (zr qm zH qA) (zr qm zH qA)) (zr jE (zE (.int 39373)) (zr qm zH qA))) Ka) (zE (.int 2147483629)) [rO 0,iV m,none,none] [.lst [.int d,.bl false]]=
   .ok (.int (g0 d)) [.lst [.int d,.bl false]]:=by
  have i:zr jE (zr qm zH qA) (zr qm zH qA) [rO 0,iV m,none,none] [.lst [.int d,.bl false]]=.ok _ [.lst [.int d,.bl false]]:=
   (zF rfl rfl).trans (YN (by lia) (by lia))
  have E:zr jE (zE _) (zr qm zH qA) [rO 0,iV m,none,none] [.lst [.int d,.bl false]]=.ok (.int (39373 * d)) [.lst [.int d,.bl false]]:=
   (zF rfl rfl).trans (YN (by decide) (by decide))
  have s:zr qw _ _ [rO 0,iV m,none,none] [.lst [.int d,.bl false]]=.ok _ [.lst [.int d,.bl false]]:=
   (zF i E).trans rfl
  refine(zF ((zF s rfl).trans rfl) rfl).trans ?_;exact YL (by decide)
 refine(zD (ql b)).trans ?_;have B:=lg d;generalize g0 d=e at*;have a:zr YX (zr qw (zr jE qH qH) (zr jE (zE (.int 16807)) qH)) (zE (.int 2147483587)) [rO 0,iV m,none,iV e] [.lst [.int d,.bl false]]=.ok (.int (Js e)) [.lst [.int d,.bl false]]:=by
  have i:zr jE qH qH [rO 0,iV m,none,iV e] [.lst [.int d,.bl false]]=.ok _ [.lst [.int d,.bl false]]:=
   (zF rfl rfl).trans (YN (by lia) (by lia))
  have E:zr jE (zE _) qH [rO 0,iV m,none,iV e] [.lst [.int d,.bl false]]=.ok (.int (16807 * e)) [.lst [.int d,.bl false]]:=
   (zF rfl rfl).trans (YN (by decide) (by decide))
  refine(zF ((zF i E).trans rfl) rfl).trans ?_;exact YL (by decide)
 refine(zD (ql a)).trans ?_;refine zL (qb ?_);refine(zF ?_ rfl).trans (YL j);exact(zF rfl rfl).trans (Xc (by decide) (by decide))
def qz (n:Nat)(A:Hx):Prop:=∃c b,A[n]? =some (.lst [.int c,.bl b])/\0<=c/\(b=false->c<2147483647)
def Me (h:qz n A){m:Int}(i:0<m)(l:m<1000000000000000):∃r o,kf [.ref n,.int m] A=.ok (.int r) (A.set n o)/\0<=r/\r<m/\qz n (A.set n o):=by
 obtain⟨c,b,d,a,f⟩:=h;have j:=(cD.mp d).1;have g:∀(r C:Int),Ga [.ref 0,.int m] [.lst [.int c,.bl b]]=.ok (.int r) [.lst [.int C,.bl b]]->kf [.ref n,.int m] A=.ok _ _:=λr C e=>by
  unfold kf Qb;dsimp only;rw[d];dsimp only;have H:(qW [W.int c,W.bl b]&&qW [W.int m])=true:=rfl;rw[aj H,e]
  rfl
 cases b with
 |true=>
  refine⟨c%m,_,g _ _ (lb i l),emod_nonneg _ (by lia),bT _ i,c/m,true,aK j,Int.ediv_nonneg a (by lia),λz=>nomatch z⟩
 |false=>
  exact⟨_,_,g _ _ (lh a (f rfl) i l),emod_nonneg _ (by lia),bT _ i,Ju c,false,aK j,(Te c).1,λ_=>(Te c).2⟩
end G
namespace Mi
open PySem L2
def Yw {k:Nat}{x y:List W}(h:A[n]? =some (.lst x))(a:A[k]? =some (.lst y))(H:x.length+y.length<=zM):qw (.ref n) (.ref k) A=.ok (.ref A.length) (A++[.lst (x++y)]):=by unfold qw;dsimp only;rw[h,a];dsimp only;rw[aj H]
def Ext (A a:Hx):Prop:=∃l,a=A++l
def Ext.refl:Ext A A:=⟨[],by simp⟩
def Ext.trans {C:Hx}(a:Ext A B)(b:Ext B C):Ext A C:=let ⟨l,e⟩:=a;let ⟨k,f⟩:=b;⟨l++k,by rw[f,e,aX]⟩
def Ext.one:Ext A (A++[o]):=⟨[o],rfl⟩
def Ext.at {a:Hx}(x:Ext A a)(h:A[n]? =some o):a[n]? =some o:=by
 obtain⟨l,rfl⟩:=x
 have:=(cD.mp h).1
 rw[aq this];exact h
def OK {j:jf}{ifs:Ev}{N:Nat}
  (H:∀i t s A,i<N->I i t s A->∃w ρ1,j.at_ A i=some (some w)/\tw w t=some ρ1/\((∃A1 c a n,ifs ρ1 A=.ok (.bl true) A1/\em ρ1 s A1=.ok (c,a) n/\I (i+1) c a n)∨(∃A1,ifs ρ1 A=.ok (.bl false) A1/\I (i+1) ρ1 s A1)))
  (e:∀t s A,I N t s A->j.at_ A N=some none):
  ∀(f i:Nat)(t:En)(s:List W)(A:Hx),i+f=N->I i t s A->∃d b p,qT j tw ifs em f i t s A=.ok (d,b) p/\I N d b p:=by
 intro f
 induction f with
 |zero=>
  intro i t s A h g
  have:i=N:=by lia
  subst this;refine⟨t,s,A,?_,g⟩;unfold qT;rw[e _ _ _ g]
 |succ f o=>
  intro i t s A h g;obtain⟨w,ρ1,v,u,q⟩:=H i t s A (by lia) g
  rw[qT,v];dsimp only;rw[u];dsimp only;rcases q with ⟨A1,c,a,n,l,r,E⟩|⟨A1,l,E⟩
  ·rw[l,zG]
   rw[r,zG];exact o (i+1) _ _ _ (by lia) E
  ·rw[l,zG]
   exact o (i+1) _ _ _ (by lia) E
def ZM {nl:Nat}{j:jf}{ifs:Ev}{N:Nat}(p:mi ρ A=.ok j A1)(l:j.len=N)
  (h:∀i ρ o A,i<N->I i ρ o A->∃w ρ1,j.at_ A i=some (some w)/\tw w ρ=some ρ1/\((∃A1 d b g,ifs ρ1 A=.ok (.bl true) A1/\em ρ1 o A1=.ok (d,b) g/\I (i+1) d b g)∨(∃A1,ifs ρ1 A=.ok (.bl false) A1/\I (i+1) ρ1 o A1)))
  (H:∀ρ o A,I N ρ o A->j.at_ A N=some none)(q:I 0 (JP nl cap ρ) [] A1):∃c a f,qC nl cap mi tw ifs em ρ A=.ok a f/\I N c a f:=by
 obtain⟨c,a,f,e,n⟩:=OK h H N 0 _ _ _ (by lia) q
 refine⟨c,a,f,?_,n⟩;unfold qC;rw[p,zG,l,e]
 rfl
def wm {j:jf}{st:W->Ex}{N:Nat}{I:Nat->En->Hx->Prop}
  (H:∀i l A,i<N->I i l A->∃w ρ1 A1,j.at_ A i=some (some w)/\st w l A=.ok (.nx ρ1) A1/\I (i+1) ρ1 A1)(d:∀l A,I N l A->j.at_ A N=some none):
  ∀(f i:Nat)(l:En)(A:Hx),i+f=N->I i l A->∃a c,j6 j st f i l A=.ok (.nx a) c/\I N a c:=by
 intro f
 induction f with
 |zero=>
  intro i l A h b
  have:i=N:=by lia
  subst this;exact⟨l,A,Gg (d _ _ b),b⟩
 |succ f e=>
  intro i l A h b;obtain⟨w,ρ1,A1,o,n,g⟩:=H i l A (by lia) b
  rw[KA o n];exact e (i+1) _ _ (by lia) g
def Ze {a:List W}{y:W}(h:me ρ A=.ok y A1)(H:a.length<zM):qi me ρ a A=.ok (ρ,a++[y]) A1:=by unfold qi;rw[h,zG,aj H]
theorem take_succ {l:List α}(h:i<l.length):l.take (i+1)=l.take i++[l[i]]:=by rw[List.take_succ,aa h];rfl
theorem Ext.set (x:Ext A B)(h:A.length<=n):Ext A (B.set n o):=by obtain⟨l,rfl⟩:=x;exact⟨l.set _ o,by rw[List.set_append_right _ _ h]⟩
def Ext.app {l:Hx}(x:Ext A B):Ext A (B++l):=x.trans ⟨l,rfl⟩
def Ext.len (x:Ext A B):A.length<=B.length:=by obtain⟨l,rfl⟩:=x;simp
def gH (h:A[n]? =some o):n<A.length:=(cD.mp h).1
end Mi
namespace G
open PySem L2 Mi
def G9 {w:W}(H:A[n]? =some (.lst ws))(h:ws[i]? =some w):((zK (.ref n) A).map λws=>ws[i]?)=some (some w):=by rw[ZX H,h]
def Xb (H:A[n]? =some (.lst ws))(h:ws.length<=i):((zK (.ref n) A).map λws=>ws[i]?)=some none:=by rw[ZX H,aw h]
theorem GO:∀(l:bZ)(m:Int),m<=yn l m/\∀x∈l,x<=yn l m
 |[],m=>⟨Int.le_refl _,λx h=>by cases h⟩|y::l,m=>by
  unfold yn
  split
  ·rename_i a
   obtain⟨c,b⟩:=GO l y;refine⟨by lia,λx H=>?_⟩
   rcases cB.mp H with rfl|H
   ·exact c
   ·exact b x H
  ·rename_i a
   obtain⟨c,b⟩:=GO l m;refine⟨c,λx H=>?_⟩;rcases cB.mp H with rfl|H
   ·lia
   ·exact b x H
theorem Pl:∀{l:List α}{k:Nat}{w:α},l[k]? =some w->l.Perm (w::l.eraseIdx k)
 |x::l,0,w,h=>by simp at h;subst h;simp
 |x::l,k+1,w,h=>by rw[List.getElem?_cons_succ]at h;exact((Pl h).cons x).trans (List.Perm.swap w x _)
def Dj {k:Nat}{i:Int}{w:W}(h:A[n]? =some (.lst ws))(a:ws[k]? =some w)(H:jA i=true)(e:seqIndex? i ws.length=some k):Jd (.ref n) (.int i) A=.ok w (A.set n (.lst (ws.eraseIdx k))):=by unfold Jd;dsimp only;rw[h];dsimp only;rw[aj H,e];dsimp only;rw[a]
def lj {k:Nat}(h:k<n):seqIndex? (k:Int) n=some k:=by
 have:=PySem.StrLaws.seqIndex_nonneg (i:=(k:Int)) (n:=n) (by lia) (by lia)
 exact this
def Dp {k:Nat}{w:W}(h:A[n]? =some (.lst ws))(a:ws[k]? =some w)(H:k<1000000):Jd (.ref n) (.int k) A=.ok w (A.set n (.lst (ws.eraseIdx k))):=
 Dj h a (G.wK H) (lj (cD.mp a).1)
theorem PR {b:Type}(f:α->b):∀(l:List α)(k:Nat),(l.map f).eraseIdx k=(l.eraseIdx k).map f
 |[],_=>rfl|_::_,0=>rfl|a::l,k+1=>by rw[a5,List.eraseIdx_cons_succ,List.eraseIdx_cons_succ,a5,PR f l k]
def YC {a b:Ev}{y:W}(H:a ρ A=.ok (.ref n) A)(c:A[n]? =some (.lst ws))(h:b ρ A=.ok y A1):Zt g a b ρ A=g (.ref n) y A1:=by unfold Zt;rw[H,zG,aj (by unfold WK;dsimp only;rw[c]),h,zG]
def Gf {y:W}(h:A[n]? =some (.lst ws))(H:ws.length<1000):Qv (.ref n) y A=.ok .non (A.set n (.lst (ws++[y]))):=by unfold Qv;dsimp only;rw[h];dsimp only;rw[aj (by unfold zM;lia)]
def ll {f:Fn}{u:List W}{c C:Int}{b B:Bool}{w:W}(a:A[n]? =some (.lst [.int c,.bl b]))(H:qW u=true)(h:f (.ref 0::u) [.lst [.int c,.bl b]]=.ok w A1)(e:A1[0]? =some (.lst [.int C,.bl B]))(d:w.nr=true):Qb f (.ref n::u) A=.ok w (A.set n (.lst [.int C,.bl B])):=by
 unfold Qb;dsimp only;rw[a];dsimp only;rw[aj (by rw[H];rfl),h]
 dsimp only;rw[List.head?_eq_getElem?,e];dsimp only;rw[aj (by rw[d];rfl)]
abbrev iL (l:cb):List W:=l.map λ(a:Nat)=>W.int a
def Dx {m:Ev}(h:m ρ A=.ok (.int n) A1)(H:n<=100):Us m ρ A=.ok (.ref A1.length) (A1++[.lst (iL (List.range n))]):=by
 unfold Us;rw[h,zG];dsimp only;rw[wK (by lia),aQ,aC (by unfold zM;lia)]
 rfl
def Oq {m:Ev}{o:List α}{f:α->W}{G:α->W}(h:m ρ A=.ok (.tup (o.map f)) A)(H:o.length<=zM)(j:∀a∈o,me (some (f a)::cap.map λi=>(ρ[i]?).join) A=.ok (G a) A):
  qC 1 cap (qJ m) (qa 0) jm (qi me) ρ A=.ok (o.map G) A:=by
 by_cases d:o=[]
 ·subst d
  have e:=gn (cap:=cap) (me:=me) (N:=0) (item:=λ_=>.non) (g:=λ_=>.non) (wq h) rfl (by unfold zM;lia) (λi c=>by lia) rfl (λi c=>by lia)
  exact e
 ·obtain⟨x,b⟩:∃x,x∈o:=List.exists_mem_of_ne_nil o d
  have e:=gn (item:=λi=>f (o.getD i x)) (g:=λi=>G (o.getD i x)) (wq h) (ah ..) H
   (λi c=>by show some _[i]? =_;rw[ar,aa c,ae,aa c];rfl)
   (by show some _[o.length]? =_;rw[aw (by rw[ah];exact ax _)])
   (λi c=>by
    have:o.getD i x=o[i]:=by rw[ae,aa c];rfl
    rw[this];exact j _ (aJ c))
  rw[e]
  congr 1
  apply bg
  ·simp
  ·intro i n l
   simp[aa (by simpa using l)]
def Yi {a:Type}(o:List α)(x:α)(f:α->a):o.map f=(List.range o.length).map λi=>f (o.getD i x):=by
 apply bg
 ·simp
 ·intro i h H
  simp[aa (by simpa using h)]
def O1 (q:∀r∈t,r.length=t.length){v:Int}(h:v∈t.flatten):∃a b,a<t.length/\b<t.length/\at2 t a b=v:=by
 obtain⟨r,H,e⟩:=List.mem_flatten.mp h;obtain⟨a,d,g⟩:=bf H;obtain⟨b,c,f⟩:=bf e;refine⟨a,b,d,by rw[<- q r H];exact c,?_⟩
 unfold at2;have E:t.getD a []=r:=by rw[ae,aa d];exact g
 rw[E,ae,aa c];exact f
def lq (h:∀r∈t,r.length=t.length){a b:Nat}(c:a<t.length)(H:b<t.length):∃r∈t,at2 t a b∈r/\at2 t a b∈t.flatten:=by
 have d:=j9 c;have e:at2 t a b∈t.getD a []:=by
  unfold at2;rw[ae (l:=t.getD a []),aa (by rw[h _ d];exact H)]
  exact aJ _
 exact⟨_,d,e,List.mem_flatten.mpr ⟨_,d,e⟩⟩
def G0 {x:Int}(h:x∈r):x<=gB r:=by
 cases r with
 |nil=>cases h|cons i I=>
  rcases cB.mp h with rfl|h
  ·exact(GO I x).1
  ·exact(GO I i).2 x h
section
def KU (h:zZ t){a b:Nat}(d:a<t.length)(c:b<t.length):at2 t a b<qp t:=by obtain⟨r,H,f,_⟩:=lq h.sq d c;have E:=G0 f;have e:=G0 (cC.mpr ⟨r,H,rfl⟩:gB r∈t.map gB);unfold qp;lia
def Ur (h:zZ t):qp t-1∈t.flatten:=by
 obtain⟨r,H,e⟩:=cC.mp (YA h.map_ne)
 have:qp t-1=gB r:=by unfold qp;lia
 rw[this];exact List.mem_flatten.mpr ⟨r,H,YA (h.row_ne H)⟩
def lr (h:zZ t):qp t<=(t.length:Int):=by
 obtain⟨r,a,H⟩:=List.mem_flatten.mp (Ur h)
 have:=h.lo r a _ H
 lia
def Xf (h:zZ t){v:Nat}(H:(v:Int)<qp t):∃a b,a<t.length/\b<t.length/\at2 t a b=(v:Int):=by
 by_cases e:(v:Int)=qp t-1
 ·rw[e];exact O1 h.sq (Ur h)
 ·exact O1 h.sq (h.fu v ⟨_,Ur h,by lia⟩)
def jO (p:cb):bZ:=0::p.map λ(k:Nat)=>1+(k:Int)
def Zu (t:bY)(p o:cb):bY:=o.map λa=>o.map λb=>(jO p).getD (at2 t a b).toNat 0
def YJ {p:cb}{v:Nat}(H:1<=v)(h:v<=p.length):(jO p).getD v 0=1+((p[v-1]'(by lia):Nat):Int):=by
 obtain⟨v,rfl⟩:∃u,v=u+1:=⟨v-1,by lia⟩
 unfold jO;rw[ae,List.getElem?_cons_succ,ar,aa (by lia)]
 rfl
def Ob (h:zZ t){p o:cb}(n:p.Perm (List.range (qp t-1).toNat))(f:o.Perm (List.range t.length)):zZ (Zu t p o)/\(Zu t p o).length=t.length:=by
 have l:o.length=t.length:=by rw[f.length_eq,aN]
 have K:=lr h;have w:p.length=(qp t-1).toNat:=by rw[n.length_eq,aN]
 have N:=h.n1;have H:∀i,o.getD i 0<t.length:=λi=>by
  by_cases J:i<o.length
  ·rw[ae,aa J]
   exact cE.mp (f.mem_iff.mp (aJ J))
  ·rw[ae,aw (by lia)]
   exact N
 have r:∀a,a<t.length->∃i,i<t.length/\o.getD i 0=a:=λa s=>by obtain⟨i,J,e⟩:=bf (f.mem_iff.mpr (cE.mpr s));exact⟨i,by lia,by rw[ae,aa J];exact e⟩
 have c:∀q (g:q<p.length),p[q]<p.length:=λq g=>by
  have:=cE.mp (n.mem_iff.mp (aJ g))
  lia
 have M:Mu t.length (λi j=>(jO p).getD (at2 t (o.getD i 0) (o.getD j 0)).toNat 0) p.length (λ_ _=>True):=by
  refine⟨λi=>?_,λi j=>?_,λi j y u _=>?_,λi j _ _ L=>absurd trivial L,λk P C=>?_⟩
  ·show(jO p).getD (at2 t _ _).toNat 0=0
   rw[(h.dg _ _ (H i) (H i)).mpr rfl]
   rfl
  ·show(jO p).getD (at2 t _ _).toNat 0=(jO p).getD (at2 t _ _).toNat 0
   rw[h.sy _ _ (H i) (H j)]
  ·show 1<=(jO p).getD (at2 t _ _).toNat 0/\(jO p).getD (at2 t _ _).toNat 0<=_
   have x:o.getD i 0≠o.getD j 0:=by
    rw[ae,aa (by lia),ae,aa (by lia)]
    intro e
    have:=(getElem_inj ((f.nodup_iff).mpr List.nodup_range)).mp e
    lia
   have d:=h.dg _ _ (H i) (H j);have I:=Jf h (H i) (H j);have D:=KU h (H i) (H j);rw[YJ (by lia) (by lia)]
   have:=c ((at2 t (o.getD i 0) (o.getD j 0)).toNat-1) (by lia)
   lia
  ·obtain⟨q,g,e⟩:=bf (n.mem_iff.mpr (cE.mpr (by lia:k-1<(qp t-1).toNat)))
   obtain⟨a,b,s,z,B⟩:=Xf h (v:=q+1) (by lia)
   obtain⟨i,J,A⟩:=r a s;obtain⟨j,u,E⟩:=r b z;refine⟨i,j,J,u,?_⟩;rw[A,E,B,aQ,YJ (by lia) (by lia)]
   have:p[q+1-1]'(by lia)=k-1:=e
   lia
 have T:Zu t p o=j0 t.length (λi j=>(jO p).getD (at2 t (o.getD i 0) (o.getD j 0)).toNat 0):=by
  unfold Zu j0;rw[Yi o 0,l]
  congr 1
  funext i
  rw[Yi o 0 _,l]
 refine⟨?_,by unfold Zu;rw[ah,l]⟩
 rw[T];exact M.tab (λ_ _ _ _=>trivial) N h.n8 (.inr (by lia))
end
end G
namespace Mi
open PySem L2
def Nh {r b:Nat}{v:W}(h:A[r]? =some (.lst ws))(H:b<ws.length):Zw (.ref r) (.int b) v A=.ok () (A.set r (.lst (ws.set b v))):=by
 have e:g9 ws.length (b:Int)=some b:=by unfold g9;rw[aj (by lia),aj (by lia),aQ]
 unfold Zw;dsimp only;rw[h];dsimp only;rw[e]
structure Kp (n:Nat)(A B:Hx):Prop where
 len:A.length<=B.length
 at_:∀i,i<A.length->i≠n->B[i]? =A[i]?
section
variable {C:Hx}
def Kp.refl:Kp n A A:=⟨ax _,λ_ _ _=>rfl⟩
theorem Kp.trans (a:Kp n A B)(b:Kp n B C):Kp n A C:=⟨bo a.len b.len,λi H h=>(b.at_ i (aE H a.len) h).trans (a.at_ i H h)⟩
theorem Kp.set:Kp n A (A.set n o):=⟨by rw[length_set];exact ax _,λi _ h=>aH (Ne.symm h)⟩
def Kp.ext (x:Ext A B):Kp n A B:=by obtain⟨l,rfl⟩:=x;exact⟨by simp,λi h _=>aq h⟩
def Kp.put (a:Kp n A B){k:Nat}(h:A.length<=k):Kp n A (B.set k o):=⟨by rw[length_set];exact a.len,λi b H=>by rw[aH (by lia)];exact a.at_ i b H⟩
def Kp.get (a:Kp n A B)(h:A[i]? =some o)(H:i≠n):B[i]? =some o:=by rw[a.at_ i (gH h) H];exact h
end
def Oj:(j0 n μ).length=n:=by unfold j0;simp
def Nm:∀r∈j0 n μ,r.length=(j0 n μ).length:=λr h=>by obtain⟨i,_,rfl⟩:=cC.mp h;rw[Oj];simp
end Mi
namespace G
open PySem L2 Mi
section
abbrev Sq (t:bY):Prop:=∀r∈t,r.length=t.length
end
def TC (t:bY):Bool:=decide (1<=t.length)&&(decide (t.length<=8)&&((t.all λr=>r.length==t.length&&r.all λv=>decide (0<=v)&&decide (v<(t.length:Int)))&&
 (((List.range t.length).all λa=>(List.range t.length).all λb=>(decide (at2 t a b=0)==decide (a=b))&&decide (at2 t a b=at2 t b a))&&(List.range 8).all λk=>!(t.flatten.any λv=>decide ((k:Int)<v)) || t.flatten.contains (k:Int))))
def GY (h:TC t=true):zZ t:=by
 unfold TC at h;rw[ak,ak,ak,ak,ag,ag]at h;obtain⟨N,n,i,s,o⟩:=h;have rw_:∀r∈t,r.length=t.length/\∀v∈r,0<=v/\v<_:=λr l=>by
  have:=cF.mp i r l
  rw[ak,aL]at this;refine⟨this.1,λv d=>?_⟩
  have:=cF.mp this.2 v d
  rw[ak,ag,ag]at this;exact this
 have at_:=λa b c H=>by
  have:=cF.mp (cF.mp s a (cE.mpr c)) b (cE.mpr H)
  rw[ak,ag]at this;exact this
 refine⟨N,n,λr l=>(rw_ r l).1,λr l=>(rw_ r l).2,λa b c H=>?_,λa b c H=>(at_ a b c H).2,λk j=>?_⟩
 ·have:=aL.mp (at_ a b c H).1
  by_cases q:a=b
  ·rw[aC q]at this;exact⟨λ_=>q,λ_=>of_decide_eq_true this⟩
  ·rw[aF q]at this;exact⟨λz=>absurd z (of_decide_eq_false this),λz=>absurd z q⟩
 ·obtain⟨v,d,f⟩:=j
  obtain⟨r,l,e⟩:=List.mem_flatten.mp d
  have:=(rw_ r l).2 v e
  have g:=cF.mp o k (cE.mpr (by lia))
  rw[ba]at g;rcases g with z|z
  ·exfalso
   have:(t.flatten.any λv=>decide _)=true:=List.any_eq_true.mpr ⟨v,d,aC f⟩
   rw[this]at z;cases z
  ·exact List.contains_iff_mem.mp z
def Qc (t:bY):((zC t).nr&&true)=true:=by rw[Qw];rfl
def ka:W->Bool
 |.int _=>true|_=>false
def gQ {m:Ev}{w:W}{ty c:Ty}(h:m ρ A=.ok w A1)(H:qZ w A1=some ty):wg c m ρ A=.ok (.bl (km ty c)) A1:=by unfold wg;rw[h,zG,H]
def QC (h:ρ[i]? =some (some (.tup ws))):mQ ja (jc (zA i)) ρ A=.ok (.int ws.length) A:=by
 rw[jy (yq (zl h) rfl)]
 rfl
def ES (i:Int)(A:Hx):Yp [.int i] A=.ok (.bl true) A:=by unfold Yp Ph;exact qe rfl
def BZ (h:r.length<=8)(A:Hx):Ym [zt r,.int r.length] A=.ok (.bl true) A:=by
 refine qe ?_;refine zL (qb ?_);have e:mQ ja (jc zH) [some (zt r),iV r.length] A=.ok (.int r.length) A:=by rw[jy (yq (zl rfl) rfl)];unfold ja;rw[ah]
 refine(wQ ((zF e (zl (i:=1) rfl)).trans ((Jq _ _ _).trans (by rw[aC rfl])))).trans ?_
 have E:=JA (cap:=[]) (ρ:=[some (zt r),iV r.length]) (me:=zR Yp (zi zH zq)) (g:=λ_=>.bl true) (zl (i:=0) rfl) (by rw[ah];unfold zM;lia) (λw H=>by obtain⟨i,_,rfl⟩:=cC.mp H;exact(zO rfl).trans (ES i A))
 exact(jy E).trans (GU λ_ _=>rfl)
def lu (l:r.length<=8)(H:∀v∈r,0<=v/\v<r.length)(A:Hx):Ke [zt r,.int r.length,.int r.length] A=.ok (.bl true) A:=by
 refine qe ?_;refine zL (qb ?_);refine(wQ ((zO rfl).trans (BZ l A))).trans ?_;have e:=JA (cap:=[2]) (ρ:=[some (zt r),iV r.length,iV r.length]) (me:=yG yK WI (zE (.int 0)) (zA 0) (zA 1)) (g:=λ_=>.bl true) (zl (i:=0) rfl) (by rw[ah];unfold zM;lia) (λw a=>by obtain⟨v,h,rfl⟩:=cC.mp a;obtain⟨c,b⟩:=H v h;unfold yG;rw[zQ,zG,zl rfl,zG];show R.bind (R.ok (W.bl _) A) _=_;rw[aC c,zG];show R.ok (W.bl _) A=_;rw[aC b])
 exact(jy e).trans (GU λ_ _=>rfl)
def lx (h:zZ t)(A:Hx):PM [zC t] A=.ok (.bl true) A:=by
 refine Zn (A1:=[]) (Qc t) rfl (qe ?_);obtain⟨d,e,_⟩:=PY (I:=λv=>∃g Y u y,v=[some _,g,Y,u,y])
  (st:=turn (yt 1 2) (zS (w5 (Y3 qo) (yt 3 4) (zS _ qj)) qj))
  (λi x=>YZ (JL x)) (by have:=YR (A:=[]) (ws:=t.map zt);rw[ah]at this;rw[ah];exact this) (λa f v H=>by
   obtain⟨g,Y,u,y,rfl⟩:=H;have l:=h.sq _ (j9 f);obtain⟨j,E,n,Z,o⟩:=PY (N:=t.length) (item:=λi=>.tup [.int i,.int ((t.getD a []).getD i 0)]) (I:=λv=>∃u y,v=[some _,iV a,some _,u,y])
    (st:=turn (yt 3 4) (zS (jx (ZF _ _) wj qj) qj))
    (λi x=>YZ (int_at (by lia)))
    (by have:=YR (A:=[]) (ws:=(t.getD a []).map W.int);rw[ah,l]at this;rw[ah,l];exact this)
    (λb c v H=>by
     obtain⟨u,y,rfl⟩:=H;refine⟨[some _,iV a,some _,iV b,iV ((t.getD a []).getD b 0)],?_,_,_,rfl⟩;refine(zD ((q9 ?_).trans rfl)).trans rfl;have r:zr jB (zr kH gi qA) (zr kH zU qH) [some (zC t),iV a,some (zt (t.getD a [])),iV b,iV ((t.getD a []).getD b 0)] []=.ok (.bl false) []:=by
      refine(zF ((zF (zl rfl) zQ).trans (Jq _ _ _)) ((zF (zl rfl) (zl rfl)).trans (Jq _ _ _))).trans ((k8 _ _ _).trans ?_);have B:(t.getD a []).getD b 0=0↔a=b:=h.dg a b f c
      have:decide ((t.getD a []).getD b 0=0)=decide ((a:Int)=(b:Int)):=by
       by_cases q:a=b
       ·rw[aC (B.mpr q),aC (by lia)]
       ·rw[aF (λz=>q (B.mp z)),aF (by lia)]
      rw[this];simp
     have E:zr jB (zr qm (zr qm zH qH) zU) gi [some (zC t),iV a,some (zt (t.getD a [])),iV b,iV ((t.getD a []).getD b 0)] []=.ok (.bl false) []:=by
      have p:=h.sq _ (j9 c);refine(zF ((zF ((zF (zl rfl) (zl rfl)).trans (JH c)) (zl rfl)).trans (KY (by lia))) (zl rfl)).trans ((Sb _ _ _).trans ?_)
      have s:(t.getD b []).getD a 0=(t.getD a []).getD b 0:=(h.sy a b f c).symm;rw[s,aC rfl]
      rfl
     exact(wV r).trans E) t.length 0 [some (zC t),iV a,some (zt _),u,y] (by lia) ⟨_,_,rfl⟩
   refine⟨[some _,iV a,some (zt (t.getD a [])),n,Z],?_,_,_,_,_,rfl⟩;rw[o]at E;have w:((t.getD a []).map W.int).length=t.length:=by rw[ah,l]
   refine(zD ((yP (Yu (zl rfl))).trans ?_)).trans rfl;rw[w]at E ⊢;exact E) t.length 0 [some (zC t),none,none,none,none] (by lia) ⟨_,_,_,_,rfl⟩
 refine(zD (ρ1:=d) ((yP (Yu (zl rfl))).trans ?_)).trans (zL rfl);rw[(ah ..)]at e ⊢;exact e
def lz (h:zZ t)(A:Hx):Sw [zC t] A=.ok (.bl true) A:=by
 have f:=CZ h;have c:t.flatten≠[]:=by
  intro e;have C:=h.n1;have b:=h.sq _ (j9 (a:=0) (by lia))
  have:t.getD 0 []=[]:=by
   have:=List.flatten_eq_nil_iff.mp e _ (j9 (a:=0) (by lia))
   exact this
  rw[this]at b;simp at b;lia
 obtain⟨p,l,E⟩:=List.exists_cons_of_ne_nil c;refine Zn (A1:=[.lst (t.flatten.map W.int)]) (Qc t) rfl (qe ?_);refine(zD (ql (j4 (k9 (zl rfl) (by unfold zM;lia))))).trans (zL (qb ?_))
 generalize j:[O.lst _]=B;have s:zK (.ref 0) B=some (t.flatten.map W.int):=by rw[<- j];rfl
 have u:mQ wD (jc zU) [some (zC t),rO 0] B=.ok (.int (yn l p)) B:=by rw[jy (yq (zl rfl) s)];unfold wD;rw[Qo,E]
 have H:yn l p∈t.flatten:=by
  rw[E];rcases VN l p with e|e
  ·rw[e];exact au ..
  ·exact ao _ e
 have d:0<=yn l p/\yn l p<8:=by
  obtain⟨r,b,v⟩:=List.mem_flatten.mp H
  have:=h.lo r b _ v
  have:=h.n8
  lia
 generalize yn l p=M at u H d;obtain⟨K,rfl⟩:=aY d.1;have o:=gn (cap:=[1]) (me:=zr LP zH zU) (N:=K) (g:=λ_=>.bl true)
  ((Zd u (by unfold jA;simp;lia)).trans (by rw[aQ])) rfl (by unfold zM;lia) (λi q=>wR q) (wN (by lia))
  (λi q=>by
   show QI false _ _ _=_;unfold QI;rw[s];dsimp only;have z:(ym (.int (0+(i:Int)))&&(t.flatten.map W.int).all ym)=true:=by
    have:(t.flatten.map W.int).all ym=true:=cF.mpr λw y=>by obtain⟨x,_,rfl⟩:=cC.mp y;rfl
    rw[this];rfl
   rw[aj z];have n:Ya (.int (0+(i:Int))) (t.flatten.map W.int)=true:=by
    refine List.any_eq_true.mpr ⟨.int i,cC.mpr ⟨_,h.fu i ⟨_,H,by lia⟩,rfl⟩,?_⟩
    rw[bI];exact bV _
   rw[n]
   rfl)
 refine(jy o).trans ?_;exact GU λ_ _=>rfl
def lA (h:zZ t)(A:Hx):Yq [zC t] A=.ok (.bl true) A:=by
 have N:=h.n1;have n:=h.n8;refine qe ?_;have e:∀b:En,mQ ja (jc (zA 0)) (some (zC t)::b) A=.ok _ A:=λb=>by rw[jy (yq (zl rfl) rfl)];unfold ja;rw[ah]
 refine(zD (A1:=A) ((q9 ?_).trans rfl)).trans ?_
 ·refine(wV rfl).trans ?_
  refine jh (k:=true) ?_;show yG yK yK _ _ _ [some _,none] A=_;unfold yG;rw[zQ,zG,e,zG];show R.bind (R.ok (W.bl _) A) _=_;rw[aC (by lia),zG]
  show R.ok (W.bl _) A=_;rw[aC (by lia)]
 refine(zD (ql (e _))).trans ?_;have E:=JA (cap:=[1]) (ρ:=[some (zC t),iV t.length]) (me:=zR Ke (zi (zA 0) (zi (zA 1) (zi (zA 1) zq)))) (g:=λ_=>.bl true) (zl (i:=0) rfl) (by rw[ah];unfold zM;lia) (λw c=>by obtain⟨r,H,rfl⟩:=cC.mp c;have l:=h.sq r H;rw[<- l];exact lu (by lia) (λv a=>by have:=h.lo r H v a;lia) A)
 refine(zD ((q9 (jh ((jy E).trans (GU λ_ _=>rfl)))).trans rfl)).trans (zL (qb ?_));refine(wQ ((zO rfl).trans (lx h A))).trans ?_;exact(zO rfl).trans (lz h A)
end G
namespace Mi
open PySem L2
theorem W9:∀(l m:bZ),PyData.eqvAll (l.map PyData.int) (m.map PyData.int)=decide (l=m)
 |[],[]=>by simp[PyData.eqvAll]|[],_::_=>by simp[PyData.eqvAll]|_::_,[]=>by simp[PyData.eqvAll]|a::l,b::m=>by simp[a5,PyData.eqvAll,W9 l m,PyData.eqv];rw[Bool.eq_iff_iff];simp
theorem P2:∀l:bZ,jM (qk A n) (l.map W.int)=some (l.map PyData.int)
 |[]=>rfl|i::l=>by
  have:qk A n (.int i)=some (.int i):=by cases n<;>rfl
  show(match qk A n _,jM _ _ with|some d,some ds=>some _|_,_=>none)=_
  rw[this,P2 l]
  rfl
def JJ {r:Nat}(h:A[r]? =some (.lst (l.map W.int))):qk A 8 (.ref r)=some (.list (l.map PyData.int)):=by
 show(match zK _ A with|some w=>(jM _ w).map PyData.list|none=>none)=_
 have:zK (.ref r) A=some (l.map W.int):=by unfold zK;dsimp only;rw[h]
 rw[this];dsimp only;rw[P2]
 rfl
def LD {r s:Nat}{m:bZ}(h:A[r]? =some (.lst (l.map W.int)))(H:A[s]? =some (.lst (m.map W.int))):kH (.ref r) (.ref s) A=.ok (.bl (decide (l=m))) A:=by
 show yU false _ _ A=_;unfold yU;rw[JJ h,JJ H];dsimp only;rw[PyData.eqv,W9]
 rfl
def Ky (A B:Hx):Prop:=∀w ty,qZ w A=some ty->qZ w B=some ty
def Ext.ky (x:Ext A B):Ky A B:=λw ty h=>by
 cases w with
 |ref n=>
  unfold qZ at h ⊢;dsimp only at h ⊢;cases e:A[n]? with|none=>rw[e]at h;cases h|some o=>rw[e]at h;rw[x.at e];exact h
 |_=>exact h
def Ky.trans {C:Hx}(a:Ky A B)(b:Ky B C):Ky A C:=λw ty h=>b w ty (a w ty h)
section
def K0:qZ (.ref A.length) (A++[.lst ws])=some .lst:=by unfold qZ;dsimp only;rw[z0]
end
structure Kn (n:Nat)(A B:Hx):Prop where
 kp:Kp n A B
 st:G.qz n B
def _root_.G.qz.ty (h:G.qz n A):qZ (.ref n) A=some .lst:=by obtain⟨c,b,e,_⟩:=h;unfold qZ;dsimp only;rw[e]
def _root_.G.qz.lt (h:G.qz n A):n<A.length:=by obtain⟨c,b,e,_⟩:=h;exact gH e
def _root_.G.qz.ext (h:G.qz n A)(x:Ext A B):G.qz n B:=by obtain⟨c,b,e,r⟩:=h;exact⟨c,b,x.at e,r⟩
def _root_.G.qz.put {k:Nat}(h:G.qz n A)(H:k≠n):G.qz n (A.set k o):=by obtain⟨c,b,e,r⟩:=h;exact⟨c,b,by rw[aH H];exact e,r⟩
def Kn.ky (s:G.qz n A)(k:Kn n A B):Ky A B:=λw ty h=>by
 cases w with
 |ref i=>
  by_cases q:i=n
  ·subst q
   rw[s.ty]at h;rw[k.st.ty];exact h
  ·unfold qZ at h ⊢
   dsimp only at h ⊢
   by_cases z:i<A.length
   ·rw[k.kp.at_ i z q];exact h
   ·rw[aw (by lia)]at h;cases h
 |_=>exact h
theorem Kn.trans {C:Hx}(a:Kn n A B)(b:Kn n B C):Kn n A C:=⟨a.kp.trans b.kp,b.st⟩
theorem Kn.ext (s:G.qz n A)(x:Ext A B):Kn n A B:=⟨Kp.ext x,s.ext x⟩
end Mi
namespace G
open PySem L2 Mi
def UE (h:qz n A){m:Int}(c:0<m)(H:m<1000000000000000):∃(r:Nat) (B:Hx),kf [.ref n,.int m] A=.ok (.int r) B/\(r:Int)<m/\Kn n A B/\B.length=A.length:=by obtain⟨r,o,e,a,b,s⟩:=Me h c H;exact⟨r.toNat,A.set n o,by rw[e,Int.toNat_of_nonneg a],by lia,⟨Kp.set,s⟩,length_set ..⟩
def wM {m:Int}(h:qz n A)(d:ρ[0]? =some (rO n))(H:me ρ A=.ok (.int m) A)(c:0<m)(b:m<1000000000000000):∃(r:Nat) (B:Hx),zR kf (zi zH (zi me zq)) ρ A=.ok (.int r) B/\(r:Int)<m/\Kn n A B/\B.length=A.length:=by obtain⟨r,B,e,a⟩:=UE h c b;exact⟨r,B,(zO (zu (zl d) (zu H zI))).trans e,a⟩
def JO {ty:Ty}(h:ty≠.tup):km ty .tup=false:=by cases ty<;>first|rfl|exact absurd rfl h
def gk (A:Hx)(w:W):Prop:=∀B,Ky A B->Yq [w] B=.ok (.bl false) B
def gk.mono {w:W}(k:Ky A B)(h:gk A w):gk B w:=λC q=>h C (k.trans q)
def MY {w:W}{ty:Ty}(h:qZ w A=some ty)(H:ty≠.tup):gk A w:=λB k=>by
 refine qe ?_;have e:ZF (jF (wg .tup zH)) (jF (yG yK yK qU (mQ ja (jc zH)) WD)) [some w,none] B=.ok (.bl true) B:=by
  unfold ZF;rw[jh ((gQ (zl rfl) (k _ _ h)).trans (by rw[JO H])),zG]
  rfl
 exact zL ((jV e).trans (zL (qb zQ)))
def lB (h:qZ (.ref j) A=some .lst):gk A (.tup [.ref j]):=λB k=>by
 refine qe ?_;dsimp only[Vy,mq];have e:Ym [.ref j,.int 1] B=.ok (.bl false) B:=by refine qe ?_;exact zL (qb (ZW ((gQ (zl rfl) (k _ _ h)).trans rfl)))
 have b:Ke [.ref j,.int 1,.int 1] B=.ok (.bl false) B:=by refine qe ?_;exact zL (qb (ZW ((zO rfl).trans e)))
 have E:=JA (cap:=[1]) (ρ:=[some (.tup [.ref j]),iV 1]) (me:=zR Ke (zi zH (zi zU (zi zU zq)))) (g:=λ_=>.bl false) (zl (i:=0) rfl) (by simp[zM]) (λw H=>by rw[cG.mp H];exact(zO rfl).trans b)
 refine(zD rfl).trans ((zD rfl).trans ?_);exact zL ((jV (jh (k:=false) ((jy E).trans rfl))).trans (zL (qb zQ)))
def ET (m:Ev)(b:En):Prop:=∀A,∃w a,m b A=.ok w a/\Ext A a/\gk a w
def AT (a:Ea)(c:En)(k:Nat):Prop:=∀A,∃s b,a c A=.ok s b/\Ext A b/\s.length=k/\∀w∈s,gk b w
section
variable {m:Ev}{a:Ea}{k:Nat}{w:W}
def G3:AT zq ρ 0:=λA=>⟨[],A,rfl,Ext.refl,rfl,λ_ h=>by cases h⟩
def yj (h:ET m ρ)(t:AT a ρ k):AT (zi m a) ρ (k+1):=λA=>by
 obtain⟨w,f,E,X,d⟩:=h A;obtain⟨s,b,e,x,l,c⟩:=t f;refine⟨w::s,b,zu E e,X.trans x,by rw[a7,l],λy H=>?_⟩
 rcases cB.mp H with rfl|H
 ·exact d.mono x.ky
 ·exact c y H
def yS (h:∀A,m ρ A=.ok w A)(H:∀B,Yq [w] B=.ok (.bl false) B:=by intro B;kernel_rfl):ET m ρ:=λA=>⟨w,A,h A,Ext.refl,λB _=>H B⟩
def lC:ET Wj ρ:=λA=>⟨.ref A.length,A++[.dct []],rfl,Ext.one,MY (by unfold qZ;dsimp only;rw[z0]) (by decide)⟩
end
section
variable {a:Ea}{k:Nat}
structure TL (A:Hx)(r k:Nat)(B:Hx):Prop where
 at_:∃ws,B[r]? =some (.lst ws)/\ws.length=k/\∀w∈ws,gk B w
 nw:A.length<=r
 ext:Ext A B
def lD (h:AT a ρ k)(A:Hx):∃r B,qF a ρ A=.ok (.ref r) B/\TL A r k B:=by obtain⟨s,c,e,x,l,b⟩:=h A;exact⟨_,_,qO e,⟨s,z0,l,λw H=>(b w H).mono Ext.one.ky⟩,x.len,x.app⟩
def Uz {r:Nat}(t:TL A r j B)(h:AT a ρ k)(g:ρ[i]? =some (rO r))(d:j+k<=100):∃b C,zr qw (zA i) (qF a) ρ B=.ok (.ref b) C/\TL A b (j+k) C:=by
 obtain⟨s,e,l,f⟩:=t.at_;obtain⟨U,c,E,X,L,u⟩:=h B;have x:Ext B (c++[.lst U]):=X.app;refine⟨_,_,(zF (zl g) (qO E)).trans (Yw (x.at e) z0 (by unfold zM;lia)),⟨s++U,z0,by rw[ai,l,L],λw H=>?_⟩,?_,(t.ext.trans x).app⟩
 ·rcases cH.mp H with q|q
  ·exact(f w q).mono (x.app).ky
  ·exact(u w q).mono (Ext.one.trans Ext.one).ky
 ·have:=t.ext.len
  have:=x.len
  lia
def A9 {r:Nat}{m:Int}{mm:Ev}(s:qz n A)(t:TL A r k B)(f:ρ[i]? =some (rO r))(o:ρ[0]? =some (rO n))(d:∀A,mm ρ A=.ok (.int m) A)(H:(k:Int)=m)(g:0<m)(p:m<1000):∃w C,zr qm (zA i) (zR kf (zi zH (zi mm zq))) ρ B=.ok w C/\gk C w/\Kn n A C:=by
 obtain⟨b,e,l,c⟩:=t.at_;have S:=s.ext t.ext;obtain⟨j,C,E,a,kn,_⟩:=wM S o (d B) g (by lia)
 have h:j<b.length:=by lia
 refine⟨b[j],C,(zF (zl f) E).trans (jP (kn.kp.get e (by have:=s.lt;have:=t.nw;lia)) (aa h)),(c _ (aJ h)).mono (kn.ky S),(Kn.ext s t.ext).trans kn⟩
end
def lE (s:qz n A):∃w B,Ye [.ref n] A=.ok w B/\gk B w/\Kn n A B:=by
 unfold Ye SN;dsimp only[X7,mq];have E:∀v,ET (qF (zi (qF (zi qA zq)) zq)) v:=λv A=>⟨_,_,qO (zu (qO (zu zQ zI)) zI),Ext.one.app,MY K0 (by decide)⟩
 have e:∀v,ET (qc (zi (qF (zi qA zq)) zq)) v:=λv A=>⟨_,_,JC (zu (qO (zu zQ zI)) zI),Ext.one,lB K0⟩;obtain⟨d,u,l,y⟩:=lD (a:=zi J3 (zi qA (zi (qc zq) (zi (qc (zi (qc zq) zq)) (zi (qc (zi (qc (zi qU zq)) zq)) (zi _ (zi _ (zi (qc (zi (qc (zi qA zq)) (zi (qc (zi qA zq)) zq))) (zi (qc (zi (qc (zi qA (zi qU zq))) (zi (qc (zi kG (zi qA zq))) zq))) (zi (qc (zi (qc (zi qA (zi kG zq))) (zi (qc (zi kG (zi qA zq))) zq))) _)))))))))) (yj (yS (λ_=>rfl)) (yj (yS (λ_=>rfl)) (yj (yS (λ_=>rfl)) (yj (yS (λ_=>rfl)) (yj (yS (λ_=>rfl)) (yj (E _) (yj (e _) (yj (yS (λ_=>rfl))
  (yj (yS (λ_=>rfl)) (yj (yS (λ_=>rfl)) (yj lC G3))))))))))) A
 obtain⟨c,q,j,T⟩:=Uz (i:=1) (ρ:=[rO n,rO d]) (a:=zi (qc (zi (qc (zi qA (zi qU zq))) (zi (qc (zi qU (zi qU zq))) zq))) (zi (qc (zi (qc (zi jm zq)) zq)) (zi (qc (zi (qc (zi qA (zi jm zq))) (zi (qc (zi jm (zi qA zq))) zq))) (zi (qc (zi (qc (zi qA (zi (jN kE qU) zq))) (zi (qc (zi (jN kE qU) (zi qA zq))) zq))) (zi (qc (zi (qc (zi qA (zi qU zq))) (zi (qc (zi qU (zi qA zq))) (zi (qc (zi qU (zi qU zq))) zq)))) zq))))) y (yj (yS (λ_=>rfl)) (yj (yS (λ_=>rfl)) (yj (yS (λ_=>rfl))
  (yj (yS (λ_=>rfl)) (yj (yS (λ_=>rfl)) G3))))) rfl (by lia)
 obtain⟨b,p,h,x⟩:=Uz (i:=1) (ρ:=[rO n,rO c]) (a:=zi (qc (zi (qc (zi qA (zi qU (zi kG zq)))) (zi (qc (zi qU (zi qA (zi kG zq)))) (zi (qc (zi kG (zi kG (zi qU zq)))) zq)))) (zi (zE _) (zi (qc (zi (qc (zi qA (zi gh (zi gh zq)))) (zi (qc (zi gh (zi qA (zi qU zq)))) (zi (qc (zi gh (zi qU (zi qA zq)))) zq)))) (zi (qc (zi (qc (zi qA zq)) (zi (qc zq) zq))) (zi (qc (zi qA zq)) zq))))) T (yj (yS (λ_=>rfl)) (yj (yS (λ_=>rfl))
  (yj (yS (λ_=>rfl)) (yj (yS (λ_=>rfl)) (yj (yS (λ_=>rfl)) G3))))) rfl (by lia)
 obtain⟨r,o,g,t⟩:=Uz (i:=1) (ρ:=[rO n,rO b]) (a:=zi (qc (zi (qc (zi J3 zq)) zq)) (zi (qc (zi (qc (zi qA (zi qA zq))) (zi (qc (zi qA (zi qA zq))) zq))) zq)) x (yj (yS (λ_=>rfl)) (yj (yS (λ_=>rfl)) G3)) rfl (by lia)
 obtain⟨w,C,f,H,kn⟩:=A9 (i:=1) (ρ:=[rO n,rO r]) (mm:=zE _) s t rfl rfl (λ_=>rfl) rfl (by decide) (by decide)
 refine⟨w,C,qe ?_,H,kn⟩;refine(zD ((ql l).trans rfl)).trans ((zD ((ql j).trans rfl)).trans ((zD ((ql h).trans rfl)).trans ((zD ((ql g).trans rfl)).trans (zL (qb f)))))
section
def lF (h:i<t.length):(B++(t.map λr=>O.lst (r.map W.int))++[O.lst ((List.range t.length).map λi=>W.ref (B.length+i))])[B.length+i]? =some (.lst ((t.getD i []).map W.int)):=by
 rw[aq (by simp;lia),az (by lia),show B.length+i-B.length=i by lia,ar,ae,aa h]
 rfl
def Bz:(B++(t.map λr=>O.lst (r.map W.int))++[O.lst ((List.range t.length).map λi=>W.ref (B.length+i))])[B.length+t.length]? =some (.lst ((List.range t.length).map λi=>W.ref (B.length+i))):=by
 have:B.length+t.length=(B++(t.map λr=>O.lst (r.map W.int))).length:=by simp
 rw[this,z0]
end
def WH {r s:Nat}{m:bZ}(h:A[r]? =some (.lst (l.map W.int)))(H:A[s]? =some (.lst (m.map W.int))):jB (.ref r) (.ref s) A=.ok (.bl (!decide (l=m))) A:=by
 show yU true _ _ A=_;unfold yU;rw[JJ h,JJ H];dsimp only;rw[PyData.eqv,W9]
 rfl
section
variable {p f:Nat}
def BA {x:Option W}(J:A.length<=p)(hf:A.length<=f)(hn:n<A.length)(h:p≠f):∀(k T:Nat)(l S:bZ)(B:Hx),l.length=k->k<T->S.length+l.length<=100->Kn n A B->B[p]? =some (.lst (l.map W.int))->B[f]? =some (.lst (S.map W.int))->
  ∃(d:Hx) (b:bZ),Jm (zr jB qo (qF zq)) (zS (Jt (Zt Qv qH (Zt Jd qo (zR kf (zi zH (zi (mQ ja (jc qo)) zq)))))) qj) T [rO n,x,rO p,rO f] B=.ok (.nx [rO n,x,rO p,rO f]) d/\Kn n A d/\d[f]? =some (.lst (b.map W.int))/\b.Perm (S++l):=by
 intro k
 induction k with
 |zero=>
  intro T l S B H s _ kn Y h2;obtain⟨T,rfl⟩:∃v,T=v+1:=⟨T-1,by lia⟩
  have:l=[]:=List.length_eq_zero_iff.mp H
  subst this;refine⟨B++[.lst []],S,?_,kn.trans (Kn.ext kn.st Ext.one),ji h2,by simp⟩
  unfold Jm;have i:zr jB qo _ [rO n,x,rO p,rO f] B=.ok (.bl false) _:=(zF (zl rfl) (qO zI)).trans (WH (m:=[]) (ji Y) z0);rw[i,zG]
 |succ k I=>
  intro T l S B H s L kn Y h2;obtain⟨T,rfl⟩:∃v,T=v+1:=⟨T-1,by lia⟩
  have i:zr jB qo (qF zq) [rO n,x,rO p,rO f] B=.ok (.bl true) (B++[.lst []]):=by
   refine(zF (zl rfl) (qO zI)).trans ((WH (m:=[]) (ji Y) z0).trans ?_);rw[aF (λe=>by rw[e]at H;cases H)]
   rfl
  have K:=kn.trans (Kn.ext kn.st (Ext.one (o:=.lst [])));have Z:=ji (u:=.lst []) Y;have g2:=ji (u:=.lst []) h2;generalize B++[O.lst []]=C at i K Z g2;have E:mQ ja (jc qo) [rO n,x,rO p,rO f] C=.ok (.int l.length) C:=by
   rw[jy (yq (zl rfl) (by unfold zK;dsimp only;rw[Z]))]
   unfold ja;rw[ah]
  obtain⟨q,z,N,D,X,_⟩:=wM K.st rfl E (by lia) (by lia)
  have r:q<l.length:=by lia
  have c:=X.kp.get Z (by lia)
  have y:=(YC (a:=zA 2) (zl rfl) Z N).trans (Dp c (by rw[ar,aa r];rfl) (by lia))
  rw[PR]at y;have g:(z.set p (.lst ((l.eraseIdx q).map W.int)))[f]? =some (.lst (S.map W.int)):=by rw[aH h];exact(X.kp.get g2 (by lia))
  have w:=(YC (a:=zA 3) (zl rfl) g2 y).trans (Gf g (by rw[ah];lia))
  have t:S.map W.int++[.int l[q]]=(S++[l[q]]).map W.int:=by rw[aS];rfl
  rw[t]at w;have U:(l.eraseIdx q).length=k:=by rw[List.length_eraseIdx_of_lt r];lia
  have j:Kn n A ((z.set p (.lst ((l.eraseIdx q).map W.int))).set f (.lst ((S++[l[q]]).map W.int))):=⟨((K.trans X).kp.put J).put hf,((X.st).put (by lia)).put (by lia)⟩
  obtain⟨d,b,M,s4,Q,P⟩:=I T _ (S++[l[q]]) _ U (by lia) (by rw[ai,aA];lia) j
   (by rw[aH (Ne.symm h),aK (gH c)]) (by rw[aK (gH g)])
  refine⟨d,b,?_,s4,Q,P.trans ?_⟩
  ·unfold Jm
   rw[i,zG];rw[((zD (Z2 w)).trans qD),zG];exact M
  ·rw[aX]
   exact List.Perm.append_left S (Pl (aa r)).symm
def OP {q:Nat}(s:qz n A)(h:A[q]? =some (.lst (l.map W.int)))(H:l.length<=100):∃(r:Nat) (B:Hx) (d:bZ),X8 [.ref n,.ref q] A=.ok (.ref r) B/\B[r]? =some (.lst (d.map W.int))/\d.Perm l/\Kn n A B/\A.length<=r:=by
 have a:(A++[O.lst (l.map W.int)]).length=A.length+1:=by simp
 obtain⟨B,d,E,kn,e,p⟩:=BA (f:=A.length+1) (ax _) (by lia) s.lt (by lia) l.length 1000 l [] _ rfl (by lia) (by simp;lia) (Kn.ext s Ext.one.app) (ji z0) (by rw[<- a];exact z0)
 refine⟨A.length+1,B,d,qe ?_,e,by simpa using p,kn,by lia⟩
 refine(zD ((ql (j4 (yq (zl rfl) (by unfold zK;dsimp only;rw[h])))).trans rfl)).trans ((zD ?_).trans ((zD (m1:=N3 1000 _ _) E).trans (zL (qb (zl rfl)))))
 refine(ql (qO zI)).trans ?_;rw[a]
 rfl
end
def dist (t:bY):cb:=(List.range 8).filter λi=>decide ((i:Int)∈t.flatten)
def T5 (t:bY)(v:Int):Int:=((dist t).idxOf v.toNat:Nat)
def Zr (t:bY):bY:=t.map λr=>r.map (T5 t)
def C1:i∈dist t↔i<8/\(i:Int)∈t.flatten:=by unfold dist;rw[bD,mem_range,ag]
theorem VH:∀{l:bZ},(∀v∈l,0<=v/\v<8)->Jc l=some (l.map Int.toNat)
 |[],_=>rfl|v::l,h=>by
  unfold Jc;rw[aj (h v (au ..)),VH λx H=>h x (ao _ H)]
  rfl
theorem P6:∀{kws:List (Nat×List W)},(∀p∈kws,A[p.1]? =some (.lst p.2))->gK A (kws.map λ(p:Nat×List W)=>W.ref p.1)=some (kws.map (·.2))
 |[],_=>rfl|p::kws,h=>by
  show(match A[p.1]? with|some (.lst ws)=>(gK A _).map _|_=>none)=_
  rw[h p (au ..)];rw[P6 λx H=>h x (ao _ H)]
  rfl
theorem Na (v:Nat):∀{l:cb},v∈l->Z3 (λz=>PyData.eqv z (.int v)) (l.map λ(i:Nat)=>PyData.int i)=some (l.idxOf v)
 |a::l,h=>by
  rw[a5,Z3,List.idxOf_cons]
  have:PyData.eqv (.int a) (.int v)=(a==v):=by rw[PyData.eqv,Bool.eq_iff_iff];simp;lia
  rw[this]
  by_cases q:a=v
  ·subst q
   simp
  ·have Q:(a==v)=false:=by simp[q]
   rw[Q,av (by simp)]
   rw[Na v ((cB.mp h).resolve_left (Ne.symm q))]
   rfl
def LL (t:bY)(r:Nat)(B:Hx):Prop:=∃K:cb,B[r]? =some (.lst (K.map W.ref))/\K.length=t.length/\∀i,i<t.length->B[K.getD i 0]? =some (.lst ((t.getD i []).map W.int))
def Gw {m:Ev}{k:Nat}(h:m ρ A=.ok (.ref k) A)(H:A[k]? =some (.lst ws))(l:ws.length<=zM){g:W->W}(b:∀w∈ws,me (some w::cap.map λi=>(ρ[i]?).join) A=.ok (g w) A):
  qC 1 cap (qJ m) (qa 0) jm (qi me) ρ A=.ok (ws.map g) A:=by
 have e:=gn (item:=λi=>ws.getD i .non) (g:=λi=>g (ws.getD i .non)) (Q8 h H) rfl l
  (λi a=>(ZX H).trans (by rw[aa a,ae,aa a];rfl))
  ((ZX H).trans (by rw[aw (ax _)]))
  (λi a=>by
   have:ws.getD i .non=ws[i]:=by rw[ae,aa a];rfl
   rw[this];exact b _ (aJ a))
 rw[e]
 congr 1
 apply bg
 ·simp
 ·intro i d c
  simp[aa (by simpa using c)]
def LH (f:Int->Int):W->W
 |.int v=>.int (f v)|w=>w
def lG (f:Int->Int)(l:bZ):(l.map W.int).map (LH f)=(l.map f).map W.int:=by rw[aU,aU];rfl
section
variable {r:Nat}
def DE (j:t.length<=8)(L:LL t r B)(o:ρ[i]? =some (rO r)):yb (qC 1 [] (qJ (zA i)) (qa 0) jm (qi (yb (jc zH)))) ρ B=
  .ok (.ref (B.length+t.length)) (B++(t.map λr=>O.lst (r.map W.int))++[O.lst ((List.range t.length).map λi=>W.ref (B.length+i))]):=by
 obtain⟨K,E,d,f⟩:=L;obtain⟨b,A,l,e,⟨z,v⟩,s,q⟩:=ZM (nl:=1) (cap:=[]) (tw:=qa 0) (ifs:=zE _) (em:=qi (yb (jc zH))) (N:=t.length)
  (I:=λp b a C=>(∃z,b=[z])/\C=B++((t.take p).map λr=>O.lst (r.map W.int))/\a=(List.range p).map λi=>W.ref (B.length+i)) (Q8 (zl o) E) (by simp[d])
  (λp b a C H ⟨⟨z,u⟩,n,g⟩=>by
   subst u n g;have x:Ext B (B++((t.take p).map λr=>O.lst (r.map W.int))):=⟨_,rfl⟩;have h:=x.at (f p H);have c:t.getD p []=t[p]:=by rw[ae,aa H];rfl
   rw[c]at h;refine⟨.ref _,[rO _],?_,rfl,.inl ⟨_,_,_,_,rfl,Ze (j4 (yq (zl rfl) (by unfold zK;dsimp only;rw[h]))) ?_,⟨_,rfl⟩,?_,?_⟩⟩
   ·refine(ZX (x.at E)).trans ?_
    rw[ar,ae,aa (by lia)];rfl
   ·simp;unfold zM;lia
   ·rw[take_succ H,aS,aX];rfl
   ·rw[bw,aS,ai,ah,bc,Nat.min_eq_left (bJ H)];rfl)
  (λb a C ⟨_,n,_⟩=>by subst n;exact(ZX (Ext.at ⟨_,rfl⟩ E)).trans (by rw[aw (by simp[d])])) ⟨⟨none,rfl⟩,by simp,by simp⟩
 rw[j4 e,s,q,bG];simp
def LL.mono (x:Ext A B)(h:LL t r A):LL t r B:=by obtain⟨K,e,a,H⟩:=h;exact⟨K,x.at e,a,λi b=>x.at (H i b)⟩
def lH (h1:1<=t.length)(K:t.length<=8)(I:Sq t)(q:∀v∈t.flatten,0<=v/\v<8)(L:LL t r A):∃B,RQ [.ref r] A=.ok (zC (Zr t)) B/\Ext A B:=by
 have Z:=by
  have:∀l:bY,(∀r∈l,r.length<=8)->l.flatten.length<=8 * l.length:=by
   intro l
   induction l with
   |nil=>intro _;simp|cons r l T=>
    intro e;have h1:=e r (au ..);have h2:=T λS y=>e S (ao _ y);rw[a3,ai,a7];lia
  have:=this t λr e=>by rw[I r e];exact K
  omega
 have Q:=DE (ρ:=[rO r,none]) (i:=0) K L rfl;have E:Ext A (A++_++[O.lst _]):=⟨(t.map λr=>O.lst (r.map W.int))++[O.lst ((List.range t.length).map λi=>W.ref (A.length+i))],by rw[aX]⟩
 have a:=λi hi=>lF (B:=A) (t:=t) (i:=i) hi;have H:=Bz (B:=A) (t:=t);generalize A++_++[O.lst _]=b at Q E a H;have P:zr Jk (yb (qC 1 [] (qJ zH) (qa 0) jm (qi (yb (jc zH))))) (qF zq) [rO r,none] A=.ok (.ref (b.length+1)) (b++[.lst []]++[.lst (t.flatten.map W.int)]):=by
  refine(zF Q (qO zI)).trans ?_;have n:=P6 (A:=b++[.lst []]) (kws:=(List.range t.length).map λi=>(A.length+i,(t.getD i []).map W.int)) (λp U=>by obtain⟨i,hi,rfl⟩:=cC.mp U;exact ji (a i (cE.mp hi)))
  rw[aU,aU]at n;have D:((λp:Nat×List W=>W.ref p.1) ∘ λi=>(A.length+i,(t.getD i []).map W.int))=λi=>W.ref _:=rfl;have C:((λp:Nat×List W=>p.2) ∘ λi=>(A.length+i,(t.getD i []).map W.int))=λi=>(t.getD i []).map W.int:=rfl;rw[D,C,<- Yi t [] λr=>r.map W.int]at n;have hf:(t.map λr=>r.map W.int).flatten=t.flatten.map W.int:=by rw[List.map_flatten]
  unfold Jk;dsimp only;rw[ji H,z0];dsimp only;rw[n];dsimp only;rw[aj ⟨λz=>(by have:=congrArg List.length z;rw[ah,aN]at this;exact absurd this (by rw[length_nil];lia)),by rw[hf,ah];unfold zM;omega⟩,hf]
  simp
 have X:Ext A (b++[.lst []]++[.lst (t.flatten.map W.int)]):=E.app.app;have f:(b++[.lst []]++[.lst (t.flatten.map W.int)])[b.length+1]? =some (.lst (t.flatten.map W.int)):=by
  have:b.length+1=(b++[O.lst []]).length:=by simp
  rw[this,z0]
 generalize b++[.lst []]++[.lst _]=d at P X f;have M:Kx (zr Jk (yb (qC 1 [] (qJ zH) (qa 0) jm (qi (yb (jc zH))))) (qF zq)) [rO r,none] A=.ok (.ref d.length) (d++[.lst (((dist t).map λ(i:Nat)=>(i:Int)).map W.int)]):=by
  unfold Kx;rw[P,zG];unfold Gv zK;dsimp only;rw[f];dsimp only;rw[Qo];dsimp only;rw[VH q];dsimp only
  have:((List.range 8).filter λi=>decide (i∈t.flatten.map Int.toNat))=dist t:=by
   apply List.filter_congr
   intro i _;rw[decide_eq_decide]
   constructor
   ·intro z
    obtain⟨v,h,rfl⟩:=cC.mp z;rw[Int.toNat_of_nonneg (q v h).1];exact h
   ·intro z
    exact cC.mpr ⟨_,z,rfl⟩
  rw[this,aU]
  rfl
 have x:=X.app (l:=[.lst (((dist t).map λ(i:Nat)=>(i:Int)).map W.int)]);have c:(d++[.lst _])[d.length]? =some (.lst (((dist t).map λ(i:Nat)=>(i:Int)).map W.int)):=z0;generalize d++[.lst _]=s at M x c;obtain⟨ks,k0,J,e⟩:=LL.mono x L;refine⟨s,qe ((zD ((ql M).trans rfl)).trans (zL (qb ?_))),x⟩;have idx:∀v,v∈t.flatten->JI _ (.int v) s=.ok (.int (T5 t v)) s:=λv h=>by
  obtain⟨u,rfl⟩:=aY (q v h).1;have hm:=C1.mpr ⟨by have:=q _ h;lia,h⟩
  unfold JI;rw[JJ c];show(match Z3 _ _ with|some j=>if j<1000000 then R.ok _ s else .bad|none=>.bad)=_
  have:((dist t).map λ(i:Nat)=>(i:Int)).map PyData.int=(dist t).map λ(i:Nat)=>PyData.int i:=by rw[aU];rfl
  rw[this,Na u hm];dsimp only;have n:=List.idxOf_lt_length_of_mem hm;have Y:(dist t).length<=8:=by unfold dist;exact bo (bC _ _) (by simp)
  rw[aj (by lia)]
  rfl
 have ec:=gn (cap:=[1]) (ρ:=[rO r,rO d.length]) (N:=t.length) (item:=λi=>.ref (ks.getD i 0)) (Q8 (zl (i:=0) rfl) k0) (by simp[J]) (by unfold zM;lia)
  (λj o=>(ZX k0).trans (by rw[ar,ae,aa (by lia)];rfl)) ((ZX k0).trans (by rw[aw (by simp[J])]))
  (λj o=>by
   have:=Gw (cap:=[1]) (m:=zA 0) (me:=Zt JI zU zH) (ρ:=[rO _,rO d.length]) (g:=LH (T5 t)) (zl rfl) (e j o) (by rw[ah,I _ (j9 o)];unfold zM;lia) (λw hw=>by obtain⟨v,h,rfl⟩:=cC.mp hw;exact(YC (zl rfl) c (zl rfl)).trans (idx v (List.mem_flatten.mpr ⟨_,j9 o,h⟩)))
   rw[lG]at this;exact Z1 this)
 refine(Z1 ec).trans ?_;unfold zC Zr;rw[aU,Yi t [] _]
 rfl
end
def kQ:Nat->List (bZ)
 |0=>[[0,1,2,3,4,3,2,1],[1,0,1,2,3,4,3,2],[2,1,0,1,2,3,4,3],[3,2,1,0,1,2,3,4],[4,3,2,1,0,1,2,3],[3,4,3,2,1,0,1,2],[2,3,4,3,2,1,0,1],[1,2,3,4,3,2,1,0]]|1=>[[0,1,2,3,3,2,1],[1,0,1,2,3,3,2],[2,1,0,1,2,3,3],[3,2,1,0,1,2,3],[3,3,2,1,0,1,2],[2,3,3,2,1,0,1],[1,2,3,3,2,1,0]]|2=>[[0,1,2,3,2,1],[1,0,1,2,3,2],[2,1,0,1,2,3],[3,2,1,0,1,2],[2,3,2,1,0,1],[1,2,3,2,1,0]]|3=>[[0,1,2,2,1],[1,0,1,2,2],[2,1,0,1,2],[2,2,1,0,1],[1,2,2,1,0]]|4=>[[0,1,2,1],[1,0,1,2],[2,1,0,1],[1,2,1,0]]|5=>[[0,1,1],[1,0,1],[1,1,0]]|6=>[[0,1],[1,0]]|7=>[[0]]|8=>[[0,1,1,2,1,2,2,3],[1,0,2,1,2,1,3,2],[1,2,0,1,2,3,1,2],[2,1,1,0,3,2,2,1],[1,2,2,3,0,1,1,2],[2,1,3,2,1,0,2,1],[2,3,1,2,1,2,0,1],[3,2,2,1,2,1,1,0]]|9=>[[0,1,1,2],[1,0,2,1],[1,2,0,1],[2,1,1,0]]|10=>[[0,1],[1,0]]|11=>[[0,1,1,1,1,1,1,1],[1,0,1,1,1,1,1,1],[1,1,0,1,1,1,1,1],[1,1,1,0,1,1,1,1],[1,1,1,1,0,1,1,1],[1,1,1,1,1,0,1,1],[1,1,1,1,1,1,0,1],[1,1,1,1,1,1,1,0]]|12=>[[0,1,1,1,1,1,1],[1,0,1,1,1,1,1],[1,1,0,1,1,1,1],[1,1,1,0,1,1,1],[1,1,1,1,0,1,1],[1,1,1,1,1,0,1],[1,1,1,1,1,1,0]]|13=>[[0,1,1,1,1,1],[1,0,1,1,1,1],[1,1,0,1,1,1],[1,1,1,0,1,1],[1,1,1,1,0,1],[1,1,1,1,1,0]]|14=>[[0,1,1,1,1],[1,0,1,1,1],[1,1,0,1,1],[1,1,1,0,1],[1,1,1,1,0]]|15=>[[0,1,1,1],[1,0,1,1],[1,1,0,1],[1,1,1,0]]|16=>[[0,1,1],[1,0,1],[1,1,0]]|17=>[[0,1],[1,0]]|18=>[[0]]|19=>[[0,1,2,2,2,2,2,2],[1,0,2,2,2,2,2,2],[2,2,0,1,2,2,2,2],[2,2,1,0,2,2,2,2],[2,2,2,2,0,1,2,2],[2,2,2,2,1,0,2,2],[2,2,2,2,2,2,0,1],[2,2,2,2,2,2,1,0]]|20=>[[0,1,1,1,2,2,2,2],[1,0,1,1,2,2,2,2],[1,1,0,1,2,2,2,2],[1,1,1,0,2,2,2,2],[2,2,2,2,0,1,1,1],[2,2,2,2,1,0,1,1],[2,2,2,2,1,1,0,1],[2,2,2,2,1,1,1,0]]|21=>[[0,1,2,2,2,2],[1,0,2,2,2,2],[2,2,0,1,2,2],[2,2,1,0,2,2],[2,2,2,2,0,1],[2,2,2,2,1,0]]|22=>[[0,1,1,2,2,2],[1,0,1,2,2,2],[1,1,0,2,2,2],[2,2,2,0,1,1],[2,2,2,1,0,1],[2,2,2,1,1,0]]|23=>[[0,1,2,2],[1,0,2,2],[2,2,0,1],[2,2,1,0]]|24=>[[0,1,1,1,1,2],[1,0,1,1,2,1],[1,1,0,2,1,1],[1,1,2,0,1,1],[1,2,1,1,0,1],[2,1,1,1,1,0]]|25=>[[0,1,2,3],[1,0,3,2],[2,3,0,1],[3,2,1,0]]|26=>[[0,1,2,3,4,5,6,7],[1,0,3,2,5,4,7,6],[2,3,0,1,6,7,4,5],[3,2,1,0,7,6,5,4],[4,5,6,7,0,1,2,3],[5,4,7,6,1,0,3,2],[6,7,4,5,2,3,0,1],[7,6,5,4,3,2,1,0]]|27=>[[0,1],[1,0]]|28=>[[0,1,2,1,3,4,5,4],[1,0,1,2,4,3,4,5],[2,1,0,1,5,4,3,4],[1,2,1,0,4,5,4,3],[3,4,5,4,0,1,2,1],[4,3,4,5,1,0,1,2],[5,4,3,4,2,1,0,1],[4,5,4,3,1,2,1,0]]|29=>[[0,1,1,3,4,4],[1,0,1,4,3,4],[1,1,0,4,4,3],[3,4,4,0,1,1],[4,3,4,1,0,1],[4,4,3,1,1,0]]|30=>[[0,1,3,4],[1,0,4,3],[3,4,0,1],[4,3,1,0]]|31=>[[0,1,2,1,3,3,3,3],[1,0,1,2,3,3,3,3],[2,1,0,1,3,3,3,3],[1,2,1,0,3,3,3,3],[3,3,3,3,0,1,2,1],[3,3,3,3,1,0,1,2],[3,3,3,3,2,1,0,1],[3,3,3,3,1,2,1,0]]|32=>[[0,1,1,3,3,3],[1,0,1,3,3,3],[1,1,0,3,3,3],[3,3,3,0,1,1],[3,3,3,1,0,1],[3,3,3,1,1,0]]|33=>[[0,1,3,3],[1,0,3,3],[3,3,0,1],[3,3,1,0]]|_=>[]
def lI:((List.range 34).all λi=>TC (Zr (kQ i))&&((kQ i).all λr=>r.length==(kQ i).length)&&((kQ i).flatten.all λv=>decide (0<=v)&&decide (v<8)))=true:=by decide +kernel
def OV (h:i<34):zZ (Zr (kQ i))/\G.Sq (kQ i)/\∀v∈(kQ i).flatten,0<=v/\v<8:=by
 have:=cF.mp lI i (cE.mpr h)
 rw[ak,ak]at this;refine⟨GY this.1.1,λr a=>?_,λv H=>?_⟩
 ·exact eq_of_beq (cF.mp this.1.2 r a)
 ·have:=cF.mp this.2 v H
  rw[ak,ag,ag]at this;exact this
theorem OZ:∀{u:List W}{w:List (List W)},gK A u=some w->∃ks:cb,u=ks.map W.ref/\ks.length=w.length/\∀i,i<w.length->A[ks.getD i 0]? =some (.lst (w.getD i []))
 |[],w,e=>by cases e;exact⟨[],rfl,rfl,λi b=>by cases b⟩
 |.ref k::u,w,e=>by
  unfold gK at e;cases h:A[k]? with
  |none=>rw[h]at e;cases e|some o=>
   rw[h]at e;cases o with
   |lst s=>
    cases h2:gK A u with
    |none=>rw[h2]at e;cases e|some v=>
     rw[h2]at e;cases e;obtain⟨ks,rfl,H,a⟩:=OZ h2;refine⟨k::ks,rfl,by simp[H],λi b=>?_⟩
     cases i with|zero=>exact h|succ i=>exact a i (by simpa using b)
   |_=>cases e
def TM (x:R Fl):Option (Option O×Option (List (List W))):=match x with
 |.ok (.rt (.ref r)) B=>some (B[0]?,match B[r]? with|some (.lst us)=>gK B us|_=>none)
 |_=>none
set_option tactic.hygienic true in
def AO {x:R Fl}(h:TM x=some (some o,some (t.map λr=>r.map W.int))):∃r B,x=.ok (.rt (.ref r)) B/\B[0]? =some o/\LL t r B:=by
 unfold TM at h
 split at h
 ·rename_i r B
  injection h with h
  injection h with e b
  cases H:B[r]? with
  |none=>rw[H]at b;cases b|some d=>
   rw[H]at b;cases d with
   |lst u=>
    obtain⟨K,rfl,l,a⟩:=OZ b;rw[ah]at l a;refine⟨r,B,rfl,e,K,H,l,λi c=>(a i c).trans ?_⟩;rw[ae,ar,ae,aa c]
    rfl
   |_=>cases b
 ·cases h
def Plain (X:Ex)(a:En)(A:Hx):Prop:=∃i,i<34/\∃r B,X a A=.ok (.rt (.ref r)) B/\qz 0 B/\LL (kQ i) r B
section
variable {m1 m2:Ex}{ρ1:En}{L:Hx}{c:Ev}
def gL (h:m1 ρ A=.ok (.nx ρ1) A1)(q:Plain m2 ρ1 A1):Plain (zS m1 m2) ρ A:=by unfold Plain;rw[zD h];exact q
def Y0 (q:Plain m1 ρ A):Plain (zS m1 m2) ρ A:=by obtain⟨i,h,r,B,e,s,l⟩:=q;exact⟨i,h,r,B,zL e,s,l⟩
def Y5 (h:c ρ A=.ok (.bl true) A1)(q:Plain m1 ρ A1):Plain (jx c m1 m2) ρ A:=by unfold Plain;rw[jV h];exact q
def jZ {m:Ex}(h:c ρ A=.ok (.bl false) A)(q:Plain m ρ A):Plain (zS (jx c m1 qj) m) ρ A:=gL ((q9 h).trans qD) q
def lJ {l:Hx}(s:qz 0 (o::L)):qz 0 (o::l):=s
def jq (i:Nat)(H:i<34)(s:qz 0 (o::L))(h:TM (m1 ρ A)=some (some o,some ((kQ i).map λr=>r.map W.int))):Plain m1 ρ A:=by obtain⟨r,B,e,a,l⟩:=AO h;obtain⟨c,b,E,q⟩:=s;exact⟨i,H,r,B,e,⟨c,b,by rw[a];exact E,q⟩,l⟩
def take1 (s:qz 0 (o::L)){m:Int}(H:0<m)(h:m<1000000000000000):∃(r:Nat) (c:O),kf [.ref 0,.int m] (o::L)=.ok (.int r) (c::L)/\(r:Int)<m/\qz 0 (c::L):=by obtain⟨r,c,e,a,b,S⟩:=Me s H h;exact⟨r.toNat,c,by rw[e,Int.toNat_of_nonneg a];rfl,by lia,S⟩
def Yt {a:Ea}{v:List W}{k:Nat}(s:qz 0 (o::L))(g:ρ[0]? =some (rO 0))(b:∀A,a ρ A=.ok v A)(d:v.length=k)(i:0<k)(K:k<1000):∃(j:Nat) (w:W) (f:O),zr qm (qF a) (zR kf (zi zH (zi (zE (.int k)) zq))) ρ (o::L)=.ok w (f::(L++[.lst v]))/\j<k/\v[j]? =some w/\qz 0 (f::(L++[.lst v])):=by
 obtain⟨r,f,e,c,S⟩:=take1 (m:=(k:Int)) (lJ s) (by lia) (by lia)
 have h:r<v.length:=by lia
 refine⟨r,v[r],f,?_,by lia,aa h,S⟩
 refine(zF (qO (b _)) ((zO (zu (zl g) (zu zQ zI))).trans e)).trans ?_;have H:(f::(L++[O.lst v]))[(o::L).length]? =some (.lst v):=by exact z0
 exact jP H (aa h)
end
def three (h:j<3):j=0∨j=1∨j=2:=by lia
def TU (h:j<5):j=0∨j=1∨j=2∨j=3∨j=4:=by lia
def U2 (h:j<8):j=0∨j=1∨j=2∨j=3∨j=4∨j=5∨j=6∨j=7:=by lia
def lK (s:qz 0 [o]):Plain (Vn.1) [rO 0,none,none,none,none,none,none,none,none,none,none] [o]:=by
 obtain⟨u,q,p,x,v⟩:=take1 s (m:=8) (by decide) (by decide)
 refine gL ((ql ((zO rfl).trans p)).trans rfl) ?_;obtain⟨j,w,c,E,l,f,S⟩:=Yt (ρ:=[rO 0,iV u,none,none,none,none,none,none,none,none,none]) (a:=zi WD (zi Ka (zi k6 (zi k4 (zi QX (zi gh (zi kG (zi qU zq)))))))) v rfl (λ_=>rfl) rfl (by decide) (by decide)
 refine gL ((ql E).trans rfl) ?_;have y:u<8:=by lia
 rcases U2 y with rfl|rfl|rfl|rfl|rfl|rfl|rfl|rfl
 ·refine Y0 (Y5 (A1:=[c,.lst [.int 8,.int 7,.int 6,.int 5,.int 4,.int 3,.int 2,.int 1]]) (by kernel_rfl) ?_)
  rcases U2 l with rfl|rfl|rfl|rfl|rfl|rfl|rfl|rfl<;>cases f
  ·exact jq 0 (by decide) S (by kernel_rfl)
  ·exact jq 1 (by decide) S (by kernel_rfl)
  ·exact jq 2 (by decide) S (by kernel_rfl)
  ·exact jq 3 (by decide) S (by kernel_rfl)
  ·exact jq 4 (by decide) S (by kernel_rfl)
  ·exact jq 5 (by decide) S (by kernel_rfl)
  ·exact jq 6 (by decide) S (by kernel_rfl)
  ·exact jq 7 (by decide) S (by kernel_rfl)
 ·refine jZ (by kernel_rfl) (Y0 (Y5 (A1:=[c,.lst [.int 8,.int 7,.int 6,.int 5,.int 4,.int 3,.int 2,.int 1]]) (by kernel_rfl) ?_))
  obtain⟨J,g,i,e,b,H,r⟩:=Yt (ρ:=[rO 0,iV ((1:Nat):Int),some w,none,none,none,none,none,none,none,none]) (a:=zi WD (zi QX (zi kG zq))) S rfl (λ_=>rfl) rfl (by decide) (by decide)
  refine gL ((ql e).trans rfl) ?_;rcases three b with rfl|rfl|rfl<;>cases H
  ·exact jq 8 (by decide) r (by kernel_rfl)
  ·exact jq 9 (by decide) r (by kernel_rfl)
  ·exact jq 10 (by decide) r (by kernel_rfl)
 ·refine jZ (by kernel_rfl) (jZ (by kernel_rfl) (Y0 (Y5 (A1:=[c,.lst [.int 8,.int 7,.int 6,.int 5,.int 4,.int 3,.int 2,.int 1]]) (by kernel_rfl) ?_)))
  rcases U2 l with rfl|rfl|rfl|rfl|rfl|rfl|rfl|rfl<;>cases f
  ·exact jq 11 (by decide) S (by kernel_rfl)
  ·exact jq 12 (by decide) S (by kernel_rfl)
  ·exact jq 13 (by decide) S (by kernel_rfl)
  ·exact jq 14 (by decide) S (by kernel_rfl)
  ·exact jq 15 (by decide) S (by kernel_rfl)
  ·exact jq 16 (by decide) S (by kernel_rfl)
  ·exact jq 17 (by decide) S (by kernel_rfl)
  ·exact jq 18 (by decide) S (by kernel_rfl)
 ·refine jZ (by kernel_rfl) (jZ (by kernel_rfl) (jZ (by kernel_rfl) (Y0 (Y5 (A1:=[c,.lst [.int 8,.int 7,.int 6,.int 5,.int 4,.int 3,.int 2,.int 1]]) (by kernel_rfl) ?_))))
  obtain⟨J,g,i,e,b,H,r⟩:=Yt (ρ:=[rO 0,iV ((3:Nat):Int),some w,none,none,none,none,none,none,none,none]) (a:=zi (qc (zi kG (zi QX zq))) (zi (qc (zi QX (zi kG zq))) (zi (qc (zi kG (zi gh zq))) (zi (qc (zi gh (zi kG zq))) (zi (qc (zi kG (zi kG zq))) zq))))) S rfl (λ_=>rfl) rfl (by decide) (by decide)
  have t:∀{m:Ev}{tw:Tg}{ρ d:En}{A A1:Hx}{w:W},m ρ A=.ok w A1->tw w ρ=some d->T4 m tw ρ A=.ok (.nx d) A1:=λh n=>by unfold T4;rw[h,zG,n]
  rcases TU b with rfl|rfl|rfl|rfl|rfl<;>cases H
  ·exact gL (t e rfl) (jq 19 (by decide) r (by kernel_rfl))
  ·exact gL (t e rfl) (jq 20 (by decide) r (by kernel_rfl))
  ·exact gL (t e rfl) (jq 21 (by decide) r (by kernel_rfl))
  ·exact gL (t e rfl) (jq 22 (by decide) r (by kernel_rfl))
  ·exact gL (t e rfl) (jq 23 (by decide) r (by kernel_rfl))
 ·exact jZ (by kernel_rfl) (jZ (by kernel_rfl) (jZ (by kernel_rfl) (jZ (by kernel_rfl) (Y0 (Y5 (A1:=[c,.lst [.int 8,.int 7,.int 6,.int 5,.int 4,.int 3,.int 2,.int 1]]) (by kernel_rfl) (jq 24 (by decide) S (by kernel_rfl)))))))
 ·refine jZ (by kernel_rfl) (jZ (by kernel_rfl) (jZ (by kernel_rfl) (jZ (by kernel_rfl) (jZ (by kernel_rfl) (Y0 (Y5 (A1:=[c,.lst [.int 8,.int 7,.int 6,.int 5,.int 4,.int 3,.int 2,.int 1]]) (by kernel_rfl) ?_))))))
  obtain⟨J,g,i,e,b,H,r⟩:=Yt (ρ:=[rO 0,iV ((5:Nat):Int),some w,none,none,none,none,none,none,none,none]) (a:=zi QX (zi WD (zi kG zq))) S rfl (λ_=>rfl) rfl (by decide) (by decide)
  refine gL ((ql e).trans rfl) ?_;rcases three b with rfl|rfl|rfl<;>cases H
  ·exact jq 25 (by decide) r (by kernel_rfl)
  ·exact jq 26 (by decide) r (by kernel_rfl)
  ·exact jq 27 (by decide) r (by kernel_rfl)
 ·refine jZ (by kernel_rfl) (jZ (by kernel_rfl) (jZ (by kernel_rfl) (jZ (by kernel_rfl) (jZ (by kernel_rfl) (jZ (by kernel_rfl) ?_)))))
  obtain⟨J,g,i,e,b,H,r⟩:=Yt (ρ:=[rO 0,iV ((6:Nat):Int),some w,none,none,none,none,none,none,none,none]) (a:=zi QX (zi gh (zi kG zq))) S rfl (λ_=>rfl) rfl (by decide) (by decide)
  refine gL ((ql e).trans rfl) ?_;rcases three b with rfl|rfl|rfl<;>cases H
  ·exact jq 28 (by decide) r (by kernel_rfl)
  ·exact jq 29 (by decide) r (by kernel_rfl)
  ·exact jq 30 (by decide) r (by kernel_rfl)
 ·refine jZ (by kernel_rfl) (jZ (by kernel_rfl) (jZ (by kernel_rfl) (jZ (by kernel_rfl) (jZ (by kernel_rfl) (jZ (by kernel_rfl) ?_)))))
  obtain⟨J,g,i,e,b,H,r⟩:=Yt (ρ:=[rO 0,iV ((7:Nat):Int),some w,none,none,none,none,none,none,none,none]) (a:=zi QX (zi gh (zi kG zq))) S rfl (λ_=>rfl) rfl (by decide) (by decide)
  refine gL ((ql e).trans rfl) ?_;rcases three b with rfl|rfl|rfl<;>cases H
  ·exact jq 31 (by decide) r (by kernel_rfl)
  ·exact jq 32 (by decide) r (by kernel_rfl)
  ·exact jq 33 (by decide) r (by kernel_rfl)
def lL (s:qz 0 [o]):∃i,i<34/\∃r B,RJ [.ref 0] [o]=.ok (.ref r) B/\qz 0 B/\LL (kQ i) r B:=by obtain⟨i,h,r,B,e,q⟩:=lK s;refine⟨i,h,r,B,?_,q⟩;exact qe e
def Sj (g:Nat->W):W->W
 |.int v=>g v.toNat|w=>w
def O5 (g:Nat->W)(o:cb):((o.map λ(a:Nat)=>(a:Int)).map W.int).map (Sj g)=o.map g:=by
 rw[aU,aU]
 apply aW
 intro a _;show g _=g a;rw[aQ]
def OA {f:bZ}{M:Nat}{s:Int}(h:f.Perm ((List.range M).map λ(k:Nat)=>s+(k:Int))):∃p:cb,f=p.map (λ(k:Nat)=>s+(k:Int))/\p.Perm (List.range M):=by
 refine⟨f.map λv=>(v-s).toNat,?_,?_⟩
 ·rw[aU]
  conv=>lhs;rw[<- map_id f]
  apply aW
  intro v H;obtain⟨k,_,rfl⟩:=cC.mp (h.mem_iff.mp H);show s+(k:Int)=s+(((s+(k:Int)-s).toNat:Nat):Int);lia
 ·have:=h.map λv=>(v-s).toNat
  rw[aU]at this;have e:(List.range M).map ((λv:Int=>(v-s).toNat) ∘ λ(k:Nat)=>s+(k:Int))=List.range M:=by
   conv=>rhs;rw[<- map_id (List.range M)]
   apply aW
   intro k _;show(s+(k:Int)-s).toNat=k;lia
  rw[e]at this;exact this
section
def Ud (h:zZ t)(a:ρ[i]? =some (some (zC t))):mQ wD (qC 1 [] (qJ (zA i)) (qa 0) jm (qi (mQ wD (jc zH)))) ρ A=.ok (.int (qp t-1)) A:=by
 have n:=h.n8;have e:=Oq (cap:=[]) (A:=A) (me:=mQ wD (jc zH)) (zl a) (by unfold zM;lia) (λr H=>(jy (yq (zl rfl) rfl)).trans (V9 (h.row_ne H)))
 have E:(t.map λr=>W.int (gB r))=(t.map gB).map W.int:=by rw[aU];rfl
 rw[E]at e;refine((jy e).trans (V9 h.map_ne)).trans ?_
 have:qp t-1=gB (t.map gB):=by unfold qp;lia
 rw[this]
def Cs {c b:Ev}{M:Nat}(H:c ρ A=.ok (.int 1) A)(h:b ρ A=.ok (.int (1+(M:Int))) A)(a:M<=100):GW c b ρ A=.ok (.ref A.length) (A++[.lst (((List.range M).map λ(k:Nat)=>1+(k:Int)).map W.int)]):=by
 unfold GW;rw[H,zG,h,zG];dsimp only;have e:(1+(M:Int)-1).toNat=M:=by lia
 rw[aj (by
  have S:jA 1=true:=by decide
  have s:jA (1+(M:Int))=true:=by unfold jA;simp;lia
  rw[S,s,e,aC (by unfold zM;lia)];rfl),e,aU]
 rfl
def Known (t:bY):Prop:=∃i p o,i<34/\p.Perm (List.range (qp (Zr (kQ i))-1).toNat)/\o.Perm (List.range (Zr (kQ i)).length)/\t=Zu (Zr (kQ i)) p o
def AU (s:qz 0 [o]):∃t B,RW [.ref 0] [o]=.ok (zC t) B/\qz 0 B/\zZ t/\Known t:=by
 obtain⟨i,hi,r,B0,e0,s0,l0⟩:=lL s;obtain⟨tt,sq,q⟩:=OV hi;have hlen:(Zr (kQ i)).length=(kQ i).length:=by unfold Zr;rw[ah]
 have m1:=tt.n1;have m8:=tt.n8;obtain⟨B1,e1,x1⟩:=lH (by lia) (by lia) sq q l0
 have s1:=s0.ext x1;generalize D:Zr (kQ i)=u at*;have kb:=wU tt;obtain⟨M,hM⟩:=aY (show 0<=qp u-1 by lia)
 have T:=QC (ρ:=[rO 0,some (zC u),none,none]) (i:=1) (A:=B1) rfl;rw[ah]at T;have Z:=Dx T (by lia)
 have J:iL (List.range u.length)=((List.range u.length).map λ(a:Nat)=>0+(a:Int)).map W.int:=by
  rw[aU]
  apply aW
  intro a _;show W.int a=W.int (0+_);rw[bI]
 rw[J]at Z;obtain⟨l,j,fd,e3,h2,p2,k2,N⟩:=OP (s1.ext (Ext.one (o:=.lst (((List.range u.length).map λ(a:Nat)=>0+_).map W.int)))) z0 (by simp;lia)
 obtain⟨d,rfl,po⟩:=OA p2;have I:(d.map λ(k:Nat)=>(0:Int)+(k:Int))=d.map λ(k:Nat)=>(k:Int):=aW λa _=>by lia
 rw[I]at h2;have Q:=by have:=s1.lt;simp at N;omega
 have Y:qF _ [rO 0,some (zC u),rO l,none] j=.ok _ (j++[.lst [.int 0]]):=qO (zu zQ zI);have s3:=k2.st.ext (Ext.one (o:=.lst [.int 0]));have z:=ji (u:=.lst [.int 0]) h2;have P:(j++[.lst [.int 0]])[j.length]? =some _:=z0;have h2l:=gH h2;generalize j++[.lst [.int 0]]=B3 at Y s3 z P;have C:=Ud tt (ρ:=[rO 0,some _,rO l,none]) (i:=1) (A:=B3) rfl;rw[hM]at C;obtain⟨r3,c,fd3,e6,h3,p3,k3,nw3⟩:=OP (s3.ext (Ext.one (o:=.lst (((List.range M).map λ(k:Nat)=>1+_).map W.int)))) z0 (by simp;lia)
 obtain⟨p,rfl,pp⟩:=OA p3;have E:zr qw (qF (zi qA zq)) (zR X8 (zi zH (zi (GW qU (zr qw qU (mQ wD (qC 1 [] (qJ zU) (qa 0) jm (qi (mQ wD (jc zH))))))) zq))) [rO 0,some (zC u),rO l,none] j=.ok (.ref c.length) (c++[.lst ((jO p).map W.int)]):=by
  refine(zF Y ((zO (zu (zl rfl) (zu (Cs zQ ((zF zQ C).trans rfl) (by lia)) zI))).trans e6)).trans ((Yw (k3.kp.get (ji P) (by lia)) h3 ?_).trans rfl)
  have:=pp.length_eq
  rw[aN]at this;unfold zM;simp;lia
 have K:=ji (u:=.lst ((jO p).map W.int)) (k3.kp.get (ji z) (by omega))
 have S:(c++[.lst _])[c.length]? =some (.lst ((jO p).map W.int)):=z0;have s5:=k3.st.ext (Ext.one (o:=.lst ((jO p).map W.int)));generalize hB5:c++[.lst _]=f at E K S s5;have hol:d.length=u.length:=by rw[po.length_eq,aN]
 have n:∀a∈d,a<u.length:=λa x=>cE.mp (po.mem_iff.mp x);have hpl:p.length=M:=by rw[pp.length_eq,aN]
 have y:(qp u-1).toNat=M:=by lia
 refine⟨Zu u p d,f,?_,s5,(Ob tt (by rw[y];exact pp) po).1,i,p,d,hi,by rw[D,y];exact pp,by rw[D];exact po,by rw[D]⟩
 refine qe ?_;refine(zD ((ql ((zO (zu ((zO (zu (zl rfl) zI)).trans e0) zI)).trans e1)).trans rfl)).trans ((zD ((ql ((zO (zu (zl rfl) (zu Z zI))).trans e3)).trans rfl)).trans ((zD ((ql E).trans rfl)).trans (zL (qb ?_))));have inner:∀a,a∈d->∀b,b∈d->zr qm qH _ [iV b,iV a,some _,rO c.length] f=.ok (.int ((jO p).getD (at2 u a b).toNat 0)) f:=λa x b q=>by
  have la:=n a x;have L:=n b q;have kg:=KU tt la L;obtain⟨v,h⟩:=aY (Jf tt la L).1;have e:zr qm (zr qm qo zU) zH [iV b,iV a,some (zC u),rO c.length] f=.ok (.int v) f:=by rw[<- h];exact(zF ((zF (zl rfl) (zl rfl)).trans (JH la)) (zl rfl)).trans (KY (by rw[tt.sq _ (j9 la)];exact L))
  have H:v<(jO p).length:=by show v<(p.map _).length+1;rw[ah];lia
  refine(zF (zl rfl) e).trans (jP S ?_);rw[h,aQ,ar,aa H,ae,aa H]
  rfl
 have X:=Gw (cap:=[1,2,3]) (m:=zA 2) (ρ:=[rO 0,some _,rO l,rO c.length]) (g:=Sj λa=>zt (d.map λb=>(jO p).getD (at2 u a b).toNat 0)) (zl rfl) K (by simp;unfold zM;lia) (λw hw=>by
  obtain⟨v,h,rfl⟩:=cC.mp hw;obtain⟨a,x,rfl⟩:=cC.mp h;have U:=Gw (cap:=[0,1,3]) (m:=zA 2) (ρ:=[iV a,some _,rO l,rO c.length]) (g:=Sj λb=>.int ((jO p).getD (at2 u a b).toNat 0)) (zl rfl) K (by simp;unfold zM;lia) (λw hw=>by obtain⟨v,h,rfl⟩:=cC.mp hw;obtain⟨b,q,rfl⟩:=cC.mp h;refine(inner a x b q).trans ?_;show _=R.ok (W.int _) f;rw[aQ])
  rw[O5]at U;refine(Z1 U).trans ?_;show _=R.ok (zt _) f;unfold zt;rw[aU]
  rfl)
 rw[O5]at X;refine(Z1 X).trans ?_;unfold zC Zu;rw[aU]
 rfl
def lM (s:qz n A):∃t B,Yj [.ref n] A=.ok (zC t) B/\zZ t/\Known t/\Kn n A B/\B.length=A.length:=by obtain⟨c,b,a,d,f⟩:=s;obtain⟨t,i,e,⟨C,g,E,h,H⟩,T,kn⟩:=AU ⟨c,b,rfl,d,f⟩;refine⟨t,A.set n _,?_,T,kn,⟨Kp.set,C,g,aK (gH a),h,H⟩,length_set ..⟩;exact ll a rfl e E (Qw t)
end
def Cz {c:En}{j:jf}{N:Nat}{u v g:Nat->W}(t:∀i,i<N->j.at_ A i=some (some (.tup [u i,v i])))(H:j.at_ A N=some none)(b:∀i,i<N->me (some (u i)::some (v i)::c) A=.ok (g i) A):
  ∀(f i:Nat)(x y:Option W)(a:List W),i+f=N->a.length+f<=zM->∃ρ,qT j (yt 0 1) (zE (.bl true)) (qi me) f i (x::y::c) a A=.ok (ρ,a++(List.range' i f).map g) A:=by
 intro f
 induction f with
 |zero=>
  intro i x y a h l
  have:i=N:=by lia
  subst this;unfold qT;rw[H];simp
 |succ f I=>
  intro i x y a h l;obtain⟨ρ,e⟩:=I (i+1) _ _ (a++[g i]) (by lia) (by rw[ai,aA];lia)
  refine⟨ρ,?_⟩;rw[qT,t i (by lia)]
  dsimp only;rw[show yt 0 1 _ _=some (some (u i)::some (v i)::c) from rfl]
  dsimp only[zE];rw[zG];have E:qi me (some (u i)::some (v i)::c) a A=.ok (some (u i)::some (v i)::c,a++[g i]) A:=by unfold qi;rw[b i (by lia),zG,aj (by lia)]
  rw[E,zG];rw[e,aX,range'_succ,a5]
  rfl
def Ek {j:jf}{N:Nat}{u v g:Nat->W}(d:mi ρ A=.ok j A)(b:j.len=N)(c:N<=1000)(H:∀i,i<N->j.at_ A i=some (some (.tup [u i,v i])))(h:j.at_ A N=some none)
  (f:∀i,i<N->me (some (u i)::some (v i)::cap.map λi=>(ρ[i]?).join) A=.ok (g i) A):qC 2 cap mi (yt 0 1) jm (qi me) ρ A=.ok ((List.range N).map g) A:=by
 obtain⟨a,e⟩:=Cz H h f N 0 none none [] (by lia) (by unfold zM;simp;lia)
 unfold qC;rw[d,zG,b];show R.bind (R.nox (qT j _ _ _ N 0 (none::none::cap.map λi=>(ρ[i]?).join) [] A)) _=_;rw[e,<- range_eq_range',nil_append]
 rfl
def Zq {r:R α}{a:α}(h:r=.ok a A):r.nox=.ok a A:=by rw[h];rfl
def Uc {m:Ex}{w:W}(h:m (ws.map some++List.replicate (n-ws.length) none) A=.ok (.rt w) A1):w6 n m ws A=.ok w A1:=by unfold w6;rw[h];rfl
def Ua {m:Ex}(h:m (ws.map some++List.replicate (n-ws.length) none) A=.ok (.nx ρ) A1):w6 n m ws A=.ok .non A1:=by unfold w6;rw[h];rfl
def gq {a M:Ex}(h:a ρ A=.exc x A1):zS a M ρ A=.exc x A1:=by unfold zS;rw[h,GC]
def GJ {m:Ev}(h:m ρ A=.exc x A1):Jt m ρ A=.exc x A1:=by unfold Jt;rw[h,GC]
def Qr {m:Ex}(h:m (ws.map some++List.replicate (n-ws.length) none) A=.exc x A1):w6 n m ws A=.exc x A1:=by unfold w6;rw[h];rfl
def GD {m M:Ev}{u v:List W}(h:m ρ A=.ok (.tup u) A)(H:M ρ A=.ok (.tup v) A):Jo m M ρ A=.ok (Zv (.tup u) (.tup v) u.length) A:=by
 unfold Jo;rw[h,zG,H,zG]
 rfl
def EH {a:Ea}{x y:List W}{r:Nat}{u e:Option W}(H:A[r]? =some (.lst x))(h:a [u,e,none,rO r] A=.ok y A)(l:x.length+y.length<=100):
  je 3 (zr qw qH (qF a)) [u,e,none,rO r] A=.ok (.nx [u,e,none,rO (A.length+1)]) (A++[.lst y]++[.lst (x++y)]):=by
 refine(ql ((zF (zl rfl) (qO h)).trans (Yw (ji H) z0 (by unfold zM;lia)))).trans ?_
 rw[ai,aA]
 rfl
def Be {a:Ea}{x y zs:List W}{L:Hx}{u e:Option W}(c:L[j]? =some (.lst x))(b:∀m A,a [u,e,none,m] A=.ok y A)(H:x.length+y.length<=100)(h:x++y=zs):
  je 3 (zr qw qH (qF a)) [u,e,none,rO (A.length+j)] (A++L)=.ok (.nx [u,e,none,rO (A.length+(L.length+1))]) (A++(L++[.lst y,.lst zs])):=by
 rw[EH (by rw[az (by lia),show A.length+j-A.length=j by lia];exact c) (b _ _) H,h,ai,aX,aX,Nat.add_assoc]
 rfl
def ZC (i a n:Nat):List W:=(List.range' a n).map λk=>W.bl (decide (k=i))
def V8 {f:Fn}{u:List W}{k:Nat}(n:qW u=true)(h:f u []=.ok (.ref k) A1)(H:A1[k]? =some (.lst ws))(w:qW ws=true):iso f u A=.ok (.ref A.length) (A++[.lst ws]):=by unfold iso;rw[aj n,h];dsimp only;rw[H];dsimp only;rw[aj w]
end G
namespace Mi
open PySem L2
section
variable {m:Ev}
def Es (h:n<1000000):jA (n:Int)=true:=by unfold jA;rw[ak,ag,ag];lia
def NJ (h:m ρ A=.ok (.ref n) A1)(H:A1[n]? =some (.lst ws)):qJ m ρ A=.ok ⟨λA i=>(zK (.ref n) A).map λws=>ws[i]?,ws.length⟩ A1:=by
 unfold qJ Wz;rw[h,zG];have e:zK (.ref n) A1=some ws:=by unfold zK;dsimp only;rw[H]
 rw[e]
def K7 (h:A[n]? =some (.lst ws)):((zK (.ref n) A).map λws=>ws[i]?)=some ws[i]?:=by
 have e:zK (.ref n) A=some ws:=by unfold zK;dsimp only;rw[h]
 rw[e];rfl
def GZ {k:Nat}{v:Int}(h:A[n]? =some (.lst [.int v])):qk A (k+1) (.ref n)=some (.list [.int v]):=by
 unfold qk;have e:zK (.ref n) A=some [.int v]:=by unfold zK;dsimp only;rw[h]
 rw[e];cases k<;>rfl
def Ta {a b:W}{d:PyData}(c:qk A 8 a=some d)(H:qk A 8 b=some d)(h:PyData.eqv d d=true):jB a b A=.ok (.bl false) A:=by
 show yU true a b A=_;unfold yU;rw[c,H];dsimp only;rw[aj rfl,h]
 rfl
end
end Mi
namespace G
open PySem L2 Mi
section
def lN (a:A[0]? =some (.ro (ns.map W.int)))(k:Nat):∃x:Int,Vb [.ref 0,.int k] A=.ok (.int x) A:=by
 have H:zK (.ref 0) A=some (ns.map W.int):=by unfold zK;dsimp only;rw[a]
 have l:mQ ja (jc zH) [rO 0,iV k] A=.ok (.int ns.length) A:=by rw[jy (yq (zl rfl) H)];unfold ja;rw[ah]
 have e:zr WI zU _ [rO 0,iV k] A=.ok (.bl _) A:=(zF (zl rfl) l).trans rfl
 by_cases h:k<ns.length
 ·refine⟨ns[k],qe ?_⟩
  rw[aC (by lia)]at e
  refine zL ((jV e).trans (zL (qb ?_)));refine(zF (zl rfl) (zl rfl)).trans ?_;unfold qm;rw[H];dsimp only;rw[GQ (by rw[ar,aa h];rfl)]
 ·refine⟨0,qe ?_⟩
  rw[aF (by lia)]at e
  exact(zD ((q9 e).trans rfl)).trans rfl
def lO (H:A[0]? =some (.ro (ns.map W.int)))(k:Nat):∃o,Yk [.ref 0,.int k] A=.ok (.ref A.length) (A++[o])/\qz A.length (A++[o]):=by
 obtain⟨x,e⟩:=lN H k;have a:je 2 (zR Vb (zi zH (zi zU zq))) [rO 0,iV k,none] A=.ok (.nx [rO 0,iV k,iV x]) A:=by refine(ql ?_).trans rfl;exact e
 have E:zr XO qo (zr TZ Lo (zE (.int 18))) [rO 0,iV k,iV x] A=.ok (.bl (decide ((1000000000000000000:Int)<=x))) A:=(zF (zl rfl) rfl).trans rfl
 by_cases h:(1000000000000000000:Int)<=x
 ·refine⟨.lst [.int _,.bl true],qe ?_,x-1000000000000000000,true,z0,by lia,λz=>nomatch z⟩
  rw[aC h]at E;refine(zD a).trans (zL ((jV E).trans (zL (qb (qO ?_)))))
  rfl
 ·refine⟨.lst [.int _,.bl false],qe ?_,x%2147483647,false,z0,emod_nonneg _ (by decide),λ_=>bT _ (by decide)⟩
  rw[aF h]at E;refine(zD a).trans ((zD ((q9 E).trans rfl)).trans (zL (qb (qO ?_))));refine zu ((zF (zl rfl) rfl).trans (YL (by decide))) rfl
end
def Lk (i:Nat):Nat->Hx
 |0=>[.lst (ZC i 0 3)]|k+1=>Lk i k++[.lst (ZC i (3 * (k+1)) 3),.lst (ZC i 0 (3 * (k+2)))]
def GX (i:Nat):Hx:=Lk i 4++[.lst [.int i]]
def wO (x:Str):Option Nat:=if x = "NoTable" then some 0 else if x = "NotSteady" then some 1 else if x = "NoKinds" then some 7 else if x = "NoPaper" then some 8 else none
def Pn (h:wO x=some i):(x = "NoTable" /\ i=0)∨(x = "NotSteady" /\ i=1)∨(x = "NoKinds" /\ i=7)∨(x = "NoPaper" /\ i=8):=by
 unfold wO at h
 by_cases c:x = "NoTable"
 ·rw[aj c]at h;cases h;exact .inl ⟨c,rfl⟩
 ·rw[av c]at h
  by_cases b:x = "NotSteady"
  ·rw[aj b]at h;cases h;exact .inr (.inl ⟨b,rfl⟩)
  ·rw[av b]at h
   by_cases a:x = "NoKinds"
   ·rw[aj a]at h;cases h;exact .inr (.inr (.inl ⟨a,rfl⟩))
   ·rw[av a]at h
    by_cases H:x = "NoPaper"
    ·rw[aj H]at h;cases h;exact .inr (.inr (.inr ⟨H,rfl⟩))
    ·rw[av H]at h;cases h
theorem K5 (i:Nat):∀k,(Lk i k).length=2 * k+1
 |0=>rfl|k+1=>by
  unfold Lk;rw[ai,K5 i k]
  rfl
def GR {k:Nat}{u:W}{a:Ea}(H:∀m A,a [some u,some (.xc x),none,m] A=.ok (ZC i (3 * (k+1)) 3) A)(b:k<6:=by decide):je 3 (zr qw qH (qF a)) [some u,some (.xc x),none,rO (A.length+2 * k)] (A++Lk i k)=.ok (.nx [some u,some (.xc x),none,rO (A.length+2 * (k+1))]) (A++Lk i (k+1)):=by
 have h:(Lk i k)[2 * k]? =some (.lst (ZC i 0 (3 * (k+1)))):=by
  cases k with
  |zero=>rfl|succ k=>
   unfold Lk;rw[az (by rw[K5];lia),K5,show 2 * (k+1)-_=1 by lia]
   rfl
 have:=Be (A:=A) h H (by simp[ZC];lia) (zs:=ZC i 0 _) (by
  unfold ZC;rw[<- aS]
  congr 1
  have:=List.range'_append_1 (s:=0) (m:=3 * (k+1)) (n:=3)
  rwa[Nat.zero_add]at this)
 rw[K5]at this;exact this
def Aq (e:wO x=some i)(u:W)(A:Hx):SY [some u,some (.xc x),none,none] A=.ok (.rt (.ref (A.length+9))) (A++GX i):=by
 have two:=Pn e;have z:∀{P:Str->Nat->Prop},P "NoTable" 0->P "NotSteady" 1->P "NoKinds" 7->P "NoPaper" 8->P x i:=λa b c d=>by rcases two with ⟨rfl,rfl⟩|⟨rfl,rfl⟩|⟨rfl,rfl⟩|⟨rfl,rfl⟩<;>assumption
 refine(zD (ρ1:=[some u,some (.xc x),none,rO (A.length+2 * 0)]) ((ql (qO (z (P:=λx i=>zi _ _ [some u,some (.xc x),none,none] A=.ok (ZC i 0 3) A) (by kernel_rfl) (by kernel_rfl) (by kernel_rfl) (by kernel_rfl)))).trans rfl)).trans ?_
 refine(zD (GR λm A=>?_)).trans ((zD (GR λm A=>?_)).trans ((zD (GR λm A=>?_)).trans ((zD (GR λm A=>?_)).trans ?_)))
 iterate 4 · rcases two with ⟨rfl,rfl⟩|⟨rfl,rfl⟩|⟨rfl,rfl⟩|⟨rfl,rfl⟩<;>kernel_rfl
 have H:(A++Lk i 4).length=A.length+9:=by rw[ai,K5]
 have f:(A++Lk i 4)[A.length+8]? =some (.lst (ZC i 0 15)):=by rw[az (by lia),show A.length+8-A.length=8 by lia];rfl
 unfold GX;rw[<- aX];generalize A++Lk i 4=B at H f;refine(zD (A1:=B) ((q9 (jh (k:=true) ?_)).trans rfl)).trans (zL (qb ?_))
 ·rcases two with ⟨rfl,rfl⟩|⟨rfl,rfl⟩|⟨rfl,rfl⟩|⟨rfl,rfl⟩<;>kernel_rfl
 have E:=Pp (cap:=[3]) (mi:=gR (zE (.int 15))) (ifs:=zr qm zU zH) (me:=zA 0) (ρ:=[some u,some (.xc x),none,rO _]) (N:=15) (keep:=λk=>decide (k=i)) rfl rfl (by unfold zM;lia) (λk h=>wR h) (wN (by lia))
  (λk h=>by
   rw[bI];refine jP f ?_;unfold ZC;rw[ar,List.getElem?_range' (by lia)]
   simp) (λk h _=>rfl)
 rw[j4 E,H,show((List.range 15).filter λk=>decide (k=i)).map _=[.int i] by rcases two with ⟨rfl,rfl⟩|⟨rfl,rfl⟩|⟨rfl,rfl⟩|⟨rfl,rfl⟩<;>rfl]
def lP (h:wO x=some i):jT.contains x=true:=by rcases Pn h with ⟨rfl,_⟩|⟨rfl,_⟩|⟨rfl,_⟩|⟨rfl,_⟩<;>decide +kernel
def RG (t:Lm)(k:Nat)(w:List W)(A:Hx):R W:=match wZ [t] k w A with
 |.exc x a=>(match wO x with|some i=>.ok (.ref (a.length+9)) (a++GX i)|none=>.bad)
 |_=>.bad
section
variable {PG:gA}{k:Nat}{t:Lm}{q:Str}
def lQ (H:wZ [t] k ws A=.exc x A1)(h:wO x=some i):
  qg 4 (WZ PG (wZ [t])) [.clo k ws (PG k)] A=.ok (.ref (A1.length+9)) (A1++GX i):=by
 have E:TR 0 PG (wZ [t]) [some (.clo k ws (PG k)),some .non,none,none] A=.exc x A1:=by refine(aj rfl).trans H
 have e:Wv 0 1 2 jT PG (wZ [t]) [some (.clo k ws (PG k)),some .non,none,none] A=.ok (.nx [some (.clo k ws (PG k)),some (.xc x),none,none]) A1:=by
  unfold Wv;rw[E];dsimp only;rw[aj (lP h)]
  rfl
 refine qe ?_;exact(zD e).trans (Aq h _ A1)
def Mr (H:wZ [t] k ws A=.exc x A1)(h:wO x=some i):RG t k ws A=.ok (.ref (A1.length+9)) (A1++GX i):=by unfold RG;rw[H];dsimp only;rw[h]
set_option tactic.hygienic true in
def NU (u:List W)(A:Hx):QQ PG (RG t) u A=.bad∨qg 4 (WZ PG (wZ [t])) u A=QQ PG (RG t) u A:=by
 by_cases H:QQ PG (RG t) u A=.bad
 ·exact .inl H
 right
 unfold QQ at H ⊢
 split
 ·rename_i k s P
  dsimp only at H
  by_cases a:P=PG k
  ·subst a
   rw[aj rfl]at H ⊢;cases e:wZ [t] k s A with
   |exc x b=>
    cases hm:wO x with|none=>exfalso;apply H;unfold RG;rw[e];dsimp only;rw[hm]|some i=>rw[lQ e hm,Mr e hm]
   |ok w b=>exfalso;apply H;unfold RG;rw[e]|bad=>exfalso;apply H;unfold RG;rw[e]
  ·rw[av a]at H;exact absurd rfl H
 ·rename_i h
  exfalso
  apply H
  split
  ·rename_i k s P
   exact(h k s P rfl).elim
  ·rfl
def KO (a:A[n]? =some (.tab q Pt))(c:J0 t.idx ρ=some ws)(H:t.m (ws.map some) A=.exc x A1)(h:wO x=some i):gz n q Pt t.idx (RG t 0) ρ A=.ok (.ref (A1.length+9)) (A1++GX i):=by unfold gz;rw[a];dsimp only;rw[aj ⟨rfl,rfl⟩,c];exact Mr H h
def Td (A:Hx)(i:Nat):(A++GX i)[A.length+9]? =some (.lst [.int i]):=by
 rw[az (by lia),show A.length+9-A.length=9 by lia]
 rfl
def HV:wO "NoTable"=some 0:=by decide +kernel
def Hn:wO "NotSteady"=some 1:=by decide +kernel
def RR:wO "NoKinds"=some 7:=by decide +kernel
def FQ:wO "NoPaper"=some 8:=by decide +kernel
end
section
variable {w:W}
def lR (h:zZ t)(A:Hx):Yq [zC t] A=.ok (.bl true) A:=lA h A
def lS (h:gk A w):Yq [w] A=.ok (.bl false) A:=h A λ_ _ z=>z
def PV (h:zZ t)(A:Hx):X9 [zC t] A=.ok .non A:=by refine Ua (ρ:=[some (zC t)]) ?_;refine(zD ((q9 ?_).trans rfl)).trans rfl;exact Zq (jh ((zO rfl).trans (lR h A)))
def Cc (h:gk A w):X9 [w] A=.exc "NoTable" A:=by refine Qr ?_;exact gq ((jV (Zq (jh ((zO rfl).trans (lS h))))).trans (gq rfl))
variable {a b k:Nat}
def Mc {ty:Ty}(h:qZ w A=some ty):(km ty .int&&!km ty .bl)=ka w:=by
 cases w with
 |ref k=>
  unfold qZ at h;dsimp only at h
  split at h
  ·cases h;rfl
  ·cases h;rfl
  ·cases h
 |clo _ _ _=>cases h|xc _=>cases h|_=>cases h;rfl
def MB {a b:Ev}{p q:Bool}(h:a ρ A=.ok (.bl p) A)(H:b ρ A=.ok (.bl q) A):gT a b ρ A=.ok (.bl (p&&q)) A:=by
 cases p with|true=>exact(wQ h).trans H|false=>exact ZW h
def Nf {ty:Ty}(h:qZ w A=some ty):Yp [w] A=.ok (.bl (ka w)) A:=by refine qe (zL (qb ((MB (gQ (zl rfl) h) (jh (gQ (zl rfl) h))).trans ?_)));rw[Mc h]
def GN (h:zZ t)(A:Hx):Kh [zC t] A=.ok (.int (qp t)) A:=by
 refine Zn (A1:=[]) (Qc t) rfl (qe ?_);refine zL (qb ((zF (Ud h rfl) zQ).trans ?_));show R.ok _ []=_
 congr 2
 lia
def Yz (h:zZ t)(A:Hx):kT [zC t] A=.ok (.int (qp t)) A:=by
 refine Zn (A1:=[]) (Qc t) rfl (qe ?_);refine zL (qb ((zF zQ (Ud h rfl)).trans ?_));show R.ok _ []=_
 congr 2
 lia
def len_tab (h:ρ[i]? =some (some (zC t))):mQ ja (jc (zA i)) ρ A=.ok (.int t.length) A:=by
 have:=QC (A:=A) h
 rw[ah]at this;exact this
end
section
variable {N b:Nat}
def lT {g:Nat->Int}{k:Int}(h:b<N):((List.range N).map λj=>W.int (g j)).set b (.int k)=(List.range N).map λj=>W.int (if j=b then k else g j):=by
 apply ext_getElem?
 intro i
 by_cases H:i<N
 ·by_cases q:b=i
  ·subst q
   rw[aK (by simpa using H),ar,aV H]
   simp
  ·rw[aH q,ar,ar,aV H]
   simp[Ne.symm q]
 ·rw[aw (by simp;lia),aw (by simp;lia)]
variable {f:Fn}
def D9 (v:Int)(A:Hx):qg 2 (Kl f) [.int v,.int v] A=.ok (.bl true) A:=by refine qe ?_;refine(zD ((q9 rfl).trans rfl)).trans (zL (qb ?_));exact(wQ ((zF (zl rfl) (zl rfl)).trans ((Jq _ _ _).trans (by rw[aC rfl])))).trans rfl
def lU (v:Int)(A:Hx):ZK [.int v,.int v] A=.ok (.bl true) A:=D9 v A
end
structure LC (K:Nat)(μ:Nat->Nat->Int)(C:Hx):Prop where
 top:C[2 * K]? =some (.lst ((List.range K).map λi=>W.ref (2 * i+1)))
 row:∀i,i<K->C[2 * i+1]? =some (.lst ((List.range K).map λj=>W.int (μ i j)))
section
variable {K a b:Nat}{C:Hx}
def LC.put (h:LC K μ C)(e:i<K)(d:j<K)(k:Int):∃b,Zw (.ref (2 * i+1)) (.int (j:Int)) (.int k) C=.ok () b/\LC K (Z9 μ i j k) b:=by
 have H:=h.row i e;refine⟨_,Nh H (by simp;lia),?_,λc f=>?_⟩
 ·rw[aH (by lia)];exact h.top
 ·by_cases q:c=i
  ·subst q
   rw[aK (gH H),lT d]
   congr 3
   funext a
   unfold Z9
   by_cases z:a=j
   ·rw[aj z,aj ⟨rfl,z⟩]
   ·rw[av z,av (by rintro⟨_,w⟩;exact z w)]
  ·rw[aH (by lia),h.row c f]
   congr 3
   funext a
   unfold Z9;rw[av (by rintro⟨w,_⟩;exact q w)]
def LC.aug (h:LC K μ C){mo mi:Ev}(o:mo ρ C=.ok (.ref (2 * i+1)) C)(b:mi ρ C=.ok (.int (j:Int)) C)(a:i<K)(H:j<K):∃c,YW mo mi qU ρ C=.ok (.nx ρ) c/\LC K (Z9 μ i j (μ i j+1)) c:=by
 obtain⟨c,e,l⟩:=h.put a H _;refine⟨c,?_,l⟩;unfold YW;rw[o,zG,b,zG];dsimp only;rw[aj (by lia),h.row i a]
 dsimp only;rw[aQ,ar,aV H];show R.bind (Zw _ _ _ C) _=_;rw[e,zG]
def LC.ix (h:LC K μ C){m M:Ev}(a:m ρ C=.ok (.ref (2 * K)) C)(b:M ρ C=.ok (.int (i:Int)) C)(H:i<K):zr qm m M ρ C=.ok (.ref (2 * i+1)) C:=
 (zF a b).trans (jP h.top (by rw[ar,aV H];rfl))
def rep1 (w:W):∀n:Nat,(List.replicate n [w]).flatten=(List.range n).map λ_=>w:=λn=>by
 rw[List.map_const',aN]
 induction n with|zero=>rfl|succ n i=>rw[bK,a3,i];rfl
def Bg (n:K<=8){s b X x:Option W}{l:List (Option W)}:∃C,yb (qC 1 [3] (gR qH) (qa 0) jm (qi (zr jE (qF (zi qA zq)) zU))) (s::b::X::some (.int (K:Int))::x::l) []=.ok (.ref (2 * K)) C/\LC K (λ_ _=>0) C:=by
 obtain⟨g,o,B,e,_,H,h⟩:=ZM (nl:=1) (cap:=[3]) (tw:=qa 0) (ifs:=zE _) (em:=qi (zr jE (qF (zi qA zq)) zU)) (N:=K)
  (I:=λi p o B=>(∃y,p=[y,some _])/\(B.length=2 * i/\∀c,c<i->B[2 * c+1]? =some (.lst ((List.range K).map λj=>W.int 0)))/\o=(List.range i).map λc=>W.ref (2 * c+1)) (Zd (m:=zA 3) (ρ:=s::b::X::some _::x::l) (A:=[]) rfl (wK (by lia))) rfl
  (λi p o B r ⟨⟨y,a⟩,⟨d,H⟩,h⟩=>by
   subst a h;refine⟨_,_,wR r,rfl,.inl ⟨B,_,_,B++[.lst [.int 0]]++[.lst ((List.range K).map λj=>W.int 0)],rfl,Ze ?_ (by rw[ah,aN];unfold zM;lia),⟨_,rfl⟩,⟨by simp;lia,λc f=>?_⟩,by rw[bw,aS];rfl⟩⟩
   ·refine(zF (qO (zu zQ zI)) (zl rfl)).trans ?_
    unfold jE;dsimp only;rw[z0];dsimp only;rw[aj (by rw[wK (by lia),aQ];simp;unfold zM;lia),aQ,ai,d,rep1]
    rfl
   ·by_cases q:c=i
    ·subst q
     simp[d]
    ·rw[aq (by simp;lia),aq (by lia)]
     exact H c (by lia))
  (λp o B _=>wN (by lia)) ⟨⟨none,rfl⟩,⟨rfl,λc f=>absurd f (bO _)⟩,rfl⟩
 subst h;refine⟨B++[.lst ((List.range K).map λc=>W.ref (2 * c+1))],?_,?_,λi r=>?_⟩
 ·rw[j4 e,H.1]
 ·rw[<- H.1];exact z0
 ·exact ji (H.2 i r)
theorem LC.tup (h:LC K μ C)(a:K<=8){i:Nat}(d:ρ[i]? =some (some (.ref (2 * K)))):mQ Z6 (qC 1 [] (qJ (zA i)) (qa 0) jm (qi (mQ Z6 (jc zH)))) ρ C=.ok (zC (j0 K μ)) C:=by
 have e:=Gw (cap:=[]) (me:=mQ Z6 (jc zH)) (zl d) h.top (by simp;unfold zM;lia) (g:=λw=>match w with|.ref n=>(match C[n]? with|some (.lst ws)=>.tup ws|_=>.non)|_=>.non) (λw b=>by obtain⟨c,H,rfl⟩:=cC.mp b;have r:=h.row c (cE.mp H);dsimp only;rw[r];exact Z1 (yq (zl rfl) (by unfold zK;dsimp only;rw[r])))
 rw[Z1 e]
 congr 1
 unfold zC j0;rw[aU,aU]
 congr 1
 refine aW λc H=>?_;show(match C[2 * c+1]? with|some (.lst ws)=>W.tup ws|_=>.non)=zt _
 rw[(h.row c (cE.mp H))];unfold zt;rw[aU]
 rfl
def shr (t:bY)(a b:Nat):Nat->Nat->Nat->Int
 |0=>λ_ _=>0|n+1=>Z9 (shr t a b n) (at2 t a n).toNat (at2 t b n).toNat (shr t a b n (at2 t a n).toNat (at2 t b n).toNat+1)
def wF (t:bY)(K a b:Nat):bY:=j0 K (shr t a b t.length)
abbrev HS (t:bY)(K:Nat)(S:Nat->List (bZ)):Prop:=∀a b,a<t.length->b<t.length->wF t K a b=S (at2 t a b).toNat
def K2 (h:zZ t)(d:qp t=(K:Int))(c:a<t.length)(H:b<t.length):((at2 t a b).toNat:Int)=at2 t a b/\(at2 t a b).toNat<K:=by have f:=Jf h c H;have e:=KU h c H;lia
def VC (h:zZ t)(g:qp t=(K:Int))(d:a<t.length)(c:b<t.length)(A:Hx):Kg [zC t,.int (a:Int),.int (b:Int)] A=.ok (zC (wF t K a b)) A:=by
 have w:=wU h;have f:((t.getD a []).map W.int).length=t.length:=by rw[ah,h.sq _ (j9 d)]
 have s:((t.getD b []).map W.int).length=t.length:=by rw[ah,h.sq _ (j9 c)]
 obtain⟨C,u,D⟩:=Bg (K:=K) (by lia)
 obtain⟨i,B,E,L,Y,y,H⟩:=wm (j:=Zv (.tup _) (.tup _) ((t.getD a []).map W.int).length) (st:=turn (yt 5 6) _)
  (I:=λn z B=>LC K (shr t a b n) B/\∃Y y,z=[some _,some _,some _,some _,some _,Y,y])
  (λn z B x ⟨l,Y,y,H⟩=>by
   subst H;obtain⟨p,q⟩:=K2 h g d x;obtain⟨o,Q⟩:=K2 h g c x;obtain⟨v,e,r⟩:=l.aug (ρ:=[some _,some _,some _,some _,some _,some _,some _]) (mo:=zr qm gi g8) (mi:=zA 6) (l.ix (zl rfl) (zl (by rw[p];rfl)) q) (zl (by rw[o];rfl)) q Q
   refine⟨.tup [.int _,.int _],_,v,?_,(kh rfl).trans ((zD e).trans qD),r,_,_,rfl⟩;show some _=_;rw[int_at (by rw[h.sq _ (j9 d)];exact x),int_at (by rw[h.sq _ (j9 c)];exact x)]
   rfl)
  (λz B _=>by
   show some (zip2 ((t.getD a []).map W.int)[t.length]? ((t.getD b []).map W.int)[t.length]?)=_;rw[aw (by lia),aw (by lia)]
   rfl) t.length 0 [some (zC t),some (.int (a:Int)),some (.int (b:Int)),some (.int (K:Int)),some (.ref (2 * K)),none,none] C (by lia) ⟨D,_,_,rfl⟩
 subst H;refine Zn (A1:=B) (Qc t) (Qw _) (qe ?_);refine(zD (ql ((zO (zu (zl rfl) zI)).trans ((GN h []).trans (by rw[g]))))).trans ?_
 refine(zD (ql u)).trans ?_;refine(zD (ρ1:=[some (zC t),some (.int (a:Int)),some (.int (b:Int)),some (.int (K:Int)),some _,Y,y]) ((yP (GD ((zF (zl rfl) (zl rfl)).trans (JH d)) ((zF (zl rfl) (zl rfl)).trans (JH c)))).trans ?_)).trans (zL (qb (L.tup (by lia) rfl)))
 have:(Zv (.tup ((t.getD a []).map W.int)) (.tup ((t.getD b []).map W.int)) ((t.getD a []).map W.int).length).len=t.length:=f
 rw[this];exact E
end
section
variable {w:W}{a:Ea}{vs:List W}{k:Nat}
def G2 (s:qz n A)(d:ρ[0]? =some (some (.ref n)))(H:a ρ A=.ok vs A)(b:vs.length=k)(f:0<k)(K:k<1000):∃(w:W) (B:Hx),zr qm (qF a) (zR kf (zi zH (zi (zE (.int (k:Int))) zq))) ρ A=.ok w B/\w∈vs/\Kn n A B:=by
 obtain⟨j,B,e,c,kn,_⟩:=wM (s.ext (Ext.one)) d (zQ (w:=.int (k:Int))) (by lia) (by lia)
 have l:=s.lt;have h:j<vs.length:=by lia
 exact⟨vs[j],B,(zF (qO H) e).trans (jP (kn.kp.get z0 (by lia)) (aa h)),aJ h,(Kn.ext s Ext.one).trans kn⟩
end
def QT (t:bY)(a b:Nat):List (Int×Int):=(List.range t.length).map λc=>(at2 t a c,at2 t b c)
def ki (t:bY):Prop:=∀a b c e,a<t.length->b<t.length->c<t.length->e<t.length->at2 t a b=at2 t c e->(QT t a b).Perm (QT t c e)
def lV (t:bY)(k:Int):Nat:=((List.range (t.length * t.length)).find? λm=>decide (at2 t (m/t.length) (m%t.length)=k)).getD 0
def Ul (t:bY):Bool:=(List.range t.length).all λa=>(List.range t.length).all λb=>let m:=lV t (at2 t a b);(QT t a b).isPerm (QT t (m/t.length) (m%t.length))
def Dl (h:Ul t=true):ki t:=λa b c e j i g n f=>by unfold Ul at h;rw[bh]at h;have l:=h a (cE.mpr j);rw[bh]at l;have d:=h c (cE.mpr g);rw[bh]at d;have H:=List.isPerm_iff.mp (d e (cE.mpr n));rw[<- f]at H;exact(List.isPerm_iff.mp (l b (cE.mpr i))).trans H.symm
def Ez:((List.range 34).all λi=>Ul (Zr (kQ i)))=true:=by decide +kernel
def lW {p:cb}(a:p.Nodup){u v:Nat}(H:u<=p.length)(h:v<=p.length)(e:(jO p).getD u 0=(jO p).getD v 0):u=v:=by
 by_cases c:u=0
 ·by_cases b:v=0
  ·lia
  ·exfalso
   subst c;rw[YJ (by lia) h]at e
   have:(jO p).getD 0 0=0:=rfl
   lia
 ·by_cases b:v=0
  ·exfalso
   subst b;rw[YJ (by lia) H]at e
   have:(jO p).getD 0 0=0:=rfl
   lia
  ·rw[YJ (by lia) H,YJ (by lia) h]at e
   have E:p[u-1]'(by lia)=p[v-1]'(by lia):=by lia
   have:=(getElem_inj a).mp E
   lia
section
variable {p o:cb}
def Gx (H:o.Perm (List.range t.length)){a b:Nat}(d:a<t.length)(c:b<t.length):at2 (Zu t p o) a b=(jO p).getD (at2 t (o.getD a 0) (o.getD b 0)).toNat 0:=by
 have h:o.length=t.length:=by rw[H.length_eq,aN]
 unfold at2 Zu;rw[ae (l:=List.map _ o),ar,aa (by lia)]
 show(List.map _ o).getD b 0=_;rw[ae,ar,aa (by lia)]
 rw[ae (l:=o),aa (by lia),ae (l:=o),aa (by lia)]
 rfl
def Eu (h:zZ t)(l:p.Perm (List.range (qp t-1).toNat))(g:o.Perm (List.range t.length))(s:ki t):ki (Zu t p o):=by
 have x:=(Ob h l g).2;have n:o.length=t.length:=by rw[g.length_eq,aN]
 have v:p.length=(qp t-1).toNat:=by rw[l.length_eq,aN]
 have H:∀i,i<t.length->o.getD i 0<t.length:=λi A=>by
  rw[ae,aa (by lia)]
  exact cE.mp (g.mem_iff.mp (aJ _))
 have u:∀a b,a<t.length->b<t.length->(at2 t a b).toNat<=p.length/\((at2 t a b).toNat:Int)=at2 t a b:=λa b f d=>by
  have:=Jf h f d
  have:=KU h f d
  lia
 have r:∀a b,a<t.length->b<t.length->(QT _ a b).Perm ((QT t _ _).map λq=>((jO p).getD q.1.toNat 0,(jO p).getD q.2.toNat 0)):=λa b f d=>by
  unfold QT;rw[x,aU];have w:(List.range t.length).map (λc=>(at2 _ a c,at2 _ b c))=(List.range t.length).map λc=>((jO p).getD (at2 t _ _).toNat 0,(jO p).getD (at2 t _ _).toNat 0):=aW λc j=>by rw[Gx g f (cE.mp j),Gx g d (cE.mp j)]
  rw[w];have E:=Yi o 0 λc=>((jO p).getD (at2 t (o.getD a 0) c).toNat 0,(jO p).getD (at2 t (o.getD b 0) c).toNat 0);rw[n]at E;rw[<- E];exact g.map _
 intro a b c e f d j y q;rw[x]at f d j y;rw[Gx g f d,Gx g j y]at q;have z:=u _ _ (H a f) (H b d);have K:=u _ _ (H c j) (H e y);have Q:=lW ((l.nodup_iff).mpr List.nodup_range) z.1 K.1 q
 have:=s _ _ _ _ (H a f) (H b d) (H c j) (H e y) (by lia)
 exact(r a b f d).trans ((this.map _).trans (r c e j y).symm)
def Fy (h:Known t):ki t:=by obtain⟨i,p,o,b,H,a,rfl⟩:=h;exact Eu (OV b).1 H a (Dl (cF.mp Ez i (cE.mpr b)))
variable {a b c e K:Nat}
theorem Gm (h:zZ t)(d:a<t.length)(H:b<t.length):∀n,n<=t.length->∀i j:Nat,shr t a b n i j=((((List.range n).map λc=>(at2 t a c,at2 t b c)).count ((i:Int),(j:Int)):Nat):Int)
 |0,_,i,j=>rfl|n+1,hn,i,j=>by
  have I:=Gm h d H n (by lia)
  have f:=(Jf h d (show n<t.length by lia)).1
  have K:=(Jf h H (show n<t.length by lia)).1
  rw[bw,aS,List.count_append,List.map_singleton,List.count_singleton];show Z9 _ (at2 t a n).toNat (at2 t b n).toNat _ i j=_;unfold Z9
  by_cases q:i=(at2 t a n).toNat/\j=(at2 t b n).toNat
  ·rw[aj q,<- q.1,<- q.2,I,aj (by rw[aL];ext<;>simp<;>lia)]
   lia
  ·rw[av q,I,av (by
    rw[aL];intro z;injection z with e Z
    exact q ⟨by lia,by lia⟩)]
   lia
def Of (h:zZ t)(s:ki t)(f:a<t.length)(d:b<t.length)(H:c<t.length)(g:e<t.length)(q:at2 t a b=at2 t c e):wF t K a b=wF t K c e:=by
 refine aW λi _=>aW λj _=>?_;rw[Gm h f d _ (ax _),Gm h H g _ (ax _)]
 have:=(s a b c e f d H g q).count_eq ((i:Int),(j:Int))
 unfold QT at this;rw[this]
end
def Xy (r:bZ):PyData:=.tuple (r.map .int)
def Tq (t:bY):PyData:=.tuple (t.map Xy)
theorem VP {f:W->Option PyData}{g:α->W}{h:α->PyData}(e:∀a,f (g a)=some (h a)):∀l:List α,jM f (l.map g)=some (l.map h)
 |[]=>rfl|a::l=>by
  rw[a5,jM,e a,VP e l]
  rfl
def V7 (A:Hx)(n:Nat)(r:bZ):qk A (n+1) (zt r)=some (Xy r):=by
 show(jM _ _).map PyData.tuple=_;rw[VP (λi=>by cases n<;>rfl)]
 rfl
def V1 (A:Hx)(n:Nat)(t:bY):qk A (n+2) (zC t)=some (Tq t):=by
 show(jM _ _).map PyData.tuple=_;rw[VP (V7 A n)]
 rfl
section
variable {a b c e k K:Nat}{w:W}{oo:List (Key×W)}
def Bd (t:bY):PyData.eqv (Tq t) (Tq t)=true:=SeqAt.eqv_refl _ (Gr 8 _ _ (V1 [] 6 t)).1
def neT (t:bY)(A:Hx):jB (zC t) (zC t) A=.ok (.bl false) A:=Ta (V1 A 6 t) (V1 A 6 t) (Bd t)
def Bs (H:zZ t)(s:ki t)(K:Nat):∃S:Nat->List (bZ),∀a b,a<t.length->b<t.length->wF t K a b=S (at2 t a b).toNat:=by
 classical
 refine⟨λk=>if h:∃q:Nat×Nat,q.1<t.length/\q.2<t.length/\(at2 t q.1 q.2).toNat=k then wF t K h.choose.1 h.choose.2 else [],λa b d c=>?_⟩;have x:∃q:Nat×Nat,q.1<t.length/\q.2<t.length/\(at2 t q.1 q.2).toNat=(at2 t a b).toNat:=⟨(a,b),d,c,rfl⟩;dsimp only;rw[dif_pos x];obtain⟨i,g,e⟩:=x.choose_spec;have f:=Jf H d c;have B:=Jf H i g;exact Of H s d c i g (by lia)
theorem OL {k:Key}:∀{K l:List (Key×W)},yc k (K++l)=match yc k K with|some w=>some w|none=>yc k l
 |[],l=>rfl|(j,w)::r,l=>by
  show(if j=k then some w else yc k _)=match (if j=k then some w else yc k r) with|some w=>some w|none=>yc k l
  by_cases h:j=k
  ·rw[aj h,aj h]
  ·rw[av h,av h];exact OL
theorem Ol {k:Key}{w:W}:∀{K:List (Key×W)},yc k K=some w->(k,w)∈K
 |(j,u)::r,h=>by
  have h:(if j=k then some u else yc k r)=some w:=h
  by_cases q:j=k
  ·rw[aj q]at h;cases h;subst q;exact au ..
  ·rw[av q]at h;exact ao _ (Ol h)
structure FP (t:bY)(done:Nat->Nat->Prop)(m:Nat)(oo:List (Key×W)):Prop where
 all:∀p∈oo,∃a b:Nat,a<t.length/\b<t.length/\p=(.inl (at2 t a b),.tup [.int (a:Int),.int (b:Int)])
 seen:∀a b,a<t.length->b<t.length->done a b->∃w,yc (.inl (at2 t a b)) oo=some w
 len:oo.length<=m
def FP.step {d d':Nat->Nat->Prop}{m:Nat}{X:Option W}(h:FP t d m oo)(i:a<t.length)(g:b<t.length)(j:∀x y,d' x y->d x y∨(x=a/\y=b))(o:m<100):
  ∃w K,N9 Up zU g8 (qc (zi qo (zi gi zq))) [some (zC t),some (.ref 0),some (.int (a:Int)),X,some (.int (b:Int)),some (.int (at2 t a b))] [.dct oo]=.ok w [.dct K]/\FP t d' (m+1) K:=by
 have l:=h.len;show ∃w K,(if oo.length<zM then(match yc (.inl (at2 t a b)) oo with|some w=>R.ok w [.dct oo]|none=>.ok (.tup [.int (a:Int),.int (b:Int)]) [O.dct (oo++[((Sum.inl (at2 t a b):Key),W.tup [.int (a:Int),.int (b:Int)])])]) else .bad)=.ok w [.dct K]/\FP t d' (m+1) K
 rw[aj (by unfold zM;lia)]
 cases v:yc _ oo with
 |some w=>
  refine⟨w,oo,rfl,h.all,λx y f e H=>?_,by lia⟩
  rcases j x y H with z|⟨rfl,rfl⟩
  ·exact h.seen x y f e z
  ·exact⟨w,v⟩
 |none=>
  refine⟨_,_,rfl,λp c=>?_,λx y f e H=>?_,by rw[ai,aA];lia⟩
  ·rcases cH.mp c with c|c
   ·exact h.all p c
   ·rw[cG.mp c];exact⟨a,b,i,g,rfl⟩
  ·rw[OL]
   rcases j x y H with z|⟨rfl,rfl⟩
   ·obtain⟨w,n⟩:=h.seen x y f e z
    rw[n];exact⟨w,rfl⟩
   ·rw[v];exact⟨.tup [.int _,.int _],by show(if _ then _ else _)=_;rw[aj rfl]⟩
def Nq {f:Fn}{u:List W}{k:Nat}(n:qW u=true)(h:f u []=.ok (.ref k) A1)(H:A1[k]? =some (.dct oo))(w:qW (oo.map (·.2))=true):iso f u A=.ok (.ref A.length) (A++[.dct oo]):=by unfold iso;rw[aj n,h];dsimp only;rw[H];dsimp only;rw[aj w]
def Nj (C:zZ t):∃K,Rw [zC t] []=.ok (.ref 0) [.dct K]/\FP t (λ_ _=>True) 64 K:=by
 have P:=C.n8;have n:(t.map zt).length=t.length:=ah ..;obtain⟨q,B,e,K,g,J,u,M,f,Y,H⟩:=wm (j:=Z7 (zC t) t.length) (st:=turn (yt 2 3) (zS (w5 (Y3 qH) (yt 4 5) (zS _ qj)) qj))
  (I:=λa L B=>∃K,B=[.dct K]/\FP t (λx _=>x<a) (a * 8) K/\∃u M f Y,L=[some _,some _,u,M,f,Y])
  (λa L B z ⟨K,g,J,u,M,f,Y,H⟩=>by
   subst g H;have v:=C.sq _ (j9 z);have o:((t.getD a []).map W.int).length=t.length:=by rw[ah,v]
   obtain⟨q,B,e,c,g,d,s,r,H⟩:=wm (st:=turn (yt 4 5) _)
    (I:=λb L B=>∃K,B=[.dct K]/\FP t (λx y=>x<a∨(x=a/\y<b)) (a * 8+b) K/\∃f Y,L=[some (zC t),some (.ref 0),some (.int (a:Int)),some (zt (t.getD a [])),f,Y])
    (λb L B E ⟨K,g,J,f,Y,H⟩=>by
     subst g H;obtain⟨w,c,e,d⟩:=J.step (d':=λx y=>x<a∨(x=a/\y<b+1)) z E (λx y h=>by lia) (by lia)
     exact⟨_,_,[.dct c],YZ (int_at (by lia)),(kh rfl).trans ((zD (Z2 e)).trans qD),c,rfl,d,_,_,rfl⟩)
    (λL B _=>by have:=YR (A:=B) (ws:=(t.getD a []).map W.int);rw[o]at this ⊢;exact this) t.length 0 [some _,some _,some _,some _,f,Y] [.dct K] (by lia)
    ⟨K,rfl,⟨J.all,λx y i l h=>J.seen x y i l (by lia),by have:=J.len;lia⟩,_,_,rfl⟩
   subst g H;refine⟨.tup [.int (a:Int),zt (t.getD a [])],[some _,some _,some (.int (a:Int)),some (zt (t.getD a [])),s,r],[.dct c],?_,(kh rfl).trans ((zD ((yP (Yu (zl rfl))).trans ?_)).trans qD),c,rfl,⟨d.all,λx y i l h=>d.seen x y i l (by lia),by have:=d.len;lia⟩,_,_,_,_,rfl⟩
   ·have:=YZ (A:=[O.dct K]) (JL z)
    exact this
   ·have:(Z7 (.tup ((t.getD a []).map W.int)) ((t.getD a []).map W.int).length).len=t.length:=o
    rw[this];exact e)
  (λL B _=>by have:=YR (A:=B) (ws:=t.map zt);rw[n]at this;exact this) t.length 0 [some (zC t),some (.ref 0),none,none,none,none] [.dct []] (by lia)
  ⟨[],rfl,⟨λp D=>(by cases D),λx y _ _ h=>absurd h (bO _),bR _⟩,_,_,_,_,rfl⟩
 subst g H;refine⟨K,qe ?_,J.all,λx y i l _=>J.seen x y i l i,by have:=J.len;lia⟩
 have N:=by
  have:=Yu (m:=zA 0) (ρ:=[some (zC t),some (.ref 0),none,none,none,none]) (A:=[.dct []]) (zl rfl)
  rw[n]at this;exact this
 exact(zD ((yP N).trans e)).trans (zL (qb (zl rfl)))
theorem FP.nr {d:Nat->Nat->Prop}{m:Nat}(h:FP t d m oo):qW (oo.map (·.2))=true:=by
 have:∀l:List (Key×W),(∀p∈l,p.2.nr=true)->qW (l.map (·.2))=true:=by
  intro l
  induction l with
  |nil=>intro _;rfl|cons p l i=>
   intro H;show(p.2.nr&&qW _)=true;rw[H p (au ..),i λq c=>H q (ao _ c)]
   rfl
 refine this oo λp H=>?_;obtain⟨a,b,_,_,rfl⟩:=h.all p H
 rfl
def FP.get {m:Nat}(h:FP t (λ_ _=>True) m oo)(d:zZ t)(n:qp t=(K:Int))(l:k<K):∃a b:Nat,a<t.length/\b<t.length/\at2 t a b=(k:Int)/\yc (.inl (k:Int)) oo=some (.tup [.int (a:Int),.int (b:Int)]):=by
 obtain⟨a,b,g,f,e⟩:=Xf d (v:=k) (by lia)
 obtain⟨w,o⟩:=h.seen a b g f trivial;rw[e]at o;obtain⟨A,B,c,H,j⟩:=h.all _ (Ol o);injection j with E i
 injection E with E
 exact⟨A,B,c,H,E.symm,by rw[o,i]⟩
def BY (o:zZ t)(s:ki t)(A:Hx):Vf [zC t] A=.ok .non A:=by
 have S:=wU o;have r:(t.map zt).length=t.length:=ah ..;obtain⟨K,M⟩:=aY (show 0<=qp t by lia)
 obtain⟨d,P,hf⟩:=Nj o;obtain⟨p,B,e,H,D,C,X,z,g,f,Y,y,h⟩:=wm (j:=Wt d) (st:=turn (UA 1 2 3) (zS (je 4 (zR Kg (zi zH (zi qo (zi qH zq))))) _))
  (I:=λ_ T B=>B=[]/\∃D C X z g f Y y,T=[some _,D,C,X,z,g,f,Y,y])
  (λi T B hi ⟨H,D,C,X,z,g,f,Y,y,h⟩=>by
   subst H h;obtain⟨a,b,L,J,N⟩:=hf.all d[i] (aJ hi);obtain⟨p,B,e,H,x,w,n,l,h⟩:=wm (j:=Z7 (zC t) t.length) (st:=turn (yt 5 6) (zS (w5 (Y3 Qg) (yt 7 8) (zS _ qj)) qj))
    (I:=λ_ T B=>B=[]/\∃g f Y y,T=[some _,some _,some _,some _,some _,g,f,Y,y])
    (λc T B v ⟨H,g,f,Y,y,h⟩=>by
     subst H h;have E:=o.sq _ (j9 v);have u:((t.getD c []).map W.int).length=t.length:=by rw[ah,E]
     obtain⟨p,B,e,H,n,l,h⟩:=wm (st:=turn (yt 7 8) (zS (jx _ (zS (kN (qc (zi qo (zi qH (zi g8 (zi XS zq)))))) qj) qj) qj))
      (I:=λ_ T B=>B=[]/\∃Y y,T=[some (zC t),some (.int (at2 t a b)),some (.int (a:Int)),some (.int (b:Int)),some (zC (wF t K a b)),some (.int (c:Int)),some (zt (t.getD c [])),Y,y])
      (λe T B he ⟨H,Y,y,h⟩=>by
       subst H h;have eq:=(zF (ρ:=[some (zC t),some _,some (.int (a:Int)),some (.int (b:Int)),some (zC (wF t K a b)),some (.int (c:Int)),some (zt (t.getD c [])),some (.int (e:Int)),some _]) (zl (i:=8) rfl) (zl (i:=1) rfl)).trans (Jq (at2 t c e) (at2 t a b) []);have U:gT (zr kH wG zU) (zr jB (zR Kg (zi zH (zi g8 (zi XS zq)))) gi) [some (zC t),some (.int (at2 t a b)),some (.int (a:Int)),some (.int (b:Int)),some (zC (wF t K a b)),some (.int (c:Int)),some (zt (t.getD c [])),some (.int (e:Int)),some (.int (at2 t c e))] []=.ok (.bl false) []:=by
        by_cases q:at2 t c e=at2 t a b
        ·rw[aC q]at eq
         refine(wQ eq).trans ((zF ((zO (zu (zl rfl) (zu (zl rfl) (zu (zl rfl) zI)))).trans (VC o M v he [])) (zl rfl)).trans ?_);rw[Of o s v he L J q];exact neT _ _
        ·rw[aF q]at eq
         exact ZW eq
       exact⟨_,_,[],YZ (int_at (by lia)),(kh rfl).trans ((zD ((q9 U).trans qD)).trans qD),rfl,_,_,rfl⟩)
      (λT B _=>by have:=YR (A:=B) (ws:=(t.getD c []).map W.int);rw[u]at this ⊢;exact this) t.length 0 [some _,some _,some _,some _,some _,some _,some _,Y,y] [] (by lia) ⟨rfl,_,_,rfl⟩
     subst H h;refine⟨.tup [.int (c:Int),zt (t.getD c [])],[some _,some _,some _,some _,some _,some (.int (c:Int)),some (zt (t.getD c [])),n,l],[],?_,(kh rfl).trans ((zD ((yP (Yu (zl rfl))).trans ?_)).trans qD),rfl,_,_,_,_,rfl⟩
     ·have:=YZ (A:=[]) (JL v)
      exact this
     ·have:(Z7 (.tup ((t.getD c []).map W.int)) ((t.getD c []).map W.int).length).len=t.length:=u
      rw[this];exact e)
    (λT B _=>by have:=YR (A:=B) (ws:=t.map zt);rw[r]at this;exact this) t.length 0 [some (zC t),some (.int (at2 t a b)),some (.int (a:Int)),some (.int (b:Int)),some (zC (wF t K a b)),g,f,Y,y] [] (by lia) ⟨rfl,_,_,_,_,rfl⟩
   subst H h;have hm:=by
    have:=Yu (m:=zA 0) (ρ:=[some (zC t),some (.int (at2 t a b)),some (.int (a:Int)),some (.int (b:Int)),some (zC (wF t K a b)),g,f,Y,y]) (A:=[]) (zl rfl)
    rw[r]at this;exact this
   refine⟨.tup [.int (at2 t a b),.tup [.int (a:Int),.int (b:Int)]],[some _,some (.int (at2 t a b)),some (.int (a:Int)),some (.int (b:Int)),some (zC (wF t K a b)),x,w,n,l],[],?_,(kh rfl).trans ?_,rfl,_,_,_,_,_,_,_,_,rfl⟩
   ·show some _=_
    rw[aa hi,N]
    rfl
   ·exact(zD (ql ((zO (zu (zl rfl) (zu (zl rfl) (zu (zl rfl) zI)))).trans (VC o M L J [])))).trans ((zD ((yP hm).trans e)).trans qD))
  (λT B _=>by
   show some _=_;rw[aw (ax _)]
   rfl) d.length 0 [some (zC t),none,none,none,none,none,none,none,none] [] (by lia) ⟨rfl,_,_,_,_,_,_,_,_,rfl⟩
 subst H h;refine Zn (A1:=[]) (Qc t) rfl (qe ?_);have Z:US (zR Vh (zi zH zq)) [some (zC t),none,none,none,none,none,none,none,none] []=.ok (Wt d) []:=by unfold US;have Q:zR Vh (zi zH zq) [some _,none,none,none,none,none,none,none,none] []=.ok _ [.dct d]:=(zO (zu (zl rfl) zI)).trans (Nq (Qc t) P rfl hf.nr);rw[Q,zG];exact aj hf.nr
 exact(zD ((yP Z).trans e)).trans (zL (qb zQ))
def Oa {S:Nat->List (bZ)}(h:zZ t)(c:qp t=(K:Int))(g:HS t K S)(A:Hx):Ru [zC t] A=.ok (.ref A.length) (A++[.lst ((List.range K).map λk=>zC (S k))]):=by
 have o:=wU h;obtain⟨s,E,v⟩:=Nj h;have C:∀k:Nat,∃q:Nat×Nat,k<K->q.1<t.length/\q.2<t.length/\at2 t q.1 q.2=_/\yc _ s=some (.tup [.int (q.1:Int),.int (q.2:Int)]):=λk=>by
  by_cases e:k<K
  ·obtain⟨a,b,u,r,d,j⟩:=v.get h c e
   exact⟨(a,b),λ_=>⟨u,r,d,j⟩⟩
  ·exact⟨(0,0),λz=>absurd z e⟩
 obtain⟨f,H⟩:=Classical.axiomOfChoice C;have n:=gn (cap:=[1]) (me:=zr U6 zU zH) (N:=K) (Zd (m:=zR Kh (zi zH zq)) (ρ:=[some _,some (.ref 0),none]) (A:=[.dct s]) ((zO (zu (zl rfl) zI)).trans ((GN h _).trans (by rw[c]))) (wK (by lia))) rfl (by unfold zM;lia) (λi p=>wR p) (wN (by lia)) (λi p=>by
  rw[bI];show(match yc _ s with|some w=>R.ok w [.dct s]|none=>.bad)=_
  rw[(H i p).2.2.2])
 have l:=Ek (A:=[.dct s]++[.lst ((List.range K).map λk=>.tup [.int _,.int _])]) (cap:=[0]) (ρ:=[some _,some (.ref 0),some (.ref 1)]) (me:=zR Kg (zi qo (zi zH (zi zU zq)))) (mi:=qJ qo) (Q8 (zl rfl) rfl) (by show((List.range K).map _).length=K;rw[ah,aN]) (by lia)
  (λi p=>G9 rfl (by rw[ar,aV p];rfl))
  (Xb rfl (by rw[ah,aN];exact ax _))
  (λi p=>by obtain⟨u,r,d,_⟩:=H i p;refine(zO (zu (zl rfl) (zu (zl rfl) (zu (zl rfl) zI)))).trans ((VC h c u r _).trans ?_);rw[g _ _ u r,d,aQ])
 refine V8 (k:=2) (A1:=[.dct s]++[.lst ((List.range K).map λk=>.tup [.int ((f k).1:Int),.int ((f k).2:Int)])]++[.lst _]) (Qc t) (qe ?_) rfl (Q9 (λ_=>Qw _) _);refine(zD (ql ((zO (zu (zl rfl) zI)).trans (Nq (Qc t) E rfl v.nr)))).trans ?_;refine(zD (ql (j4 n))).trans ?_;exact zL (qb (j4 l))
def Ny (h:zZ t)(s:ki t)(A:Hx):WT [zC t] A=.ok .non A:=by refine Ua (ρ:=[some (zC t)]) ?_;exact(zD (Z2 ((zO (zu (zl rfl) zI)).trans (PV h A)))).trans ((zD ((q9 (Zq ((zF ((zO (zu (zl rfl) zI)).trans (BY h s A)) zQ).trans rfl))).trans qD)).trans qD)
def lX (h:gk A w):WT [w] A=.exc "NoTable" A:=by refine Qr ?_;exact gq (GJ ((zO (zu (zl rfl) zI)).trans (Cc h)))
def XZ (t:bY):Prop:=zZ t/\∃w,Rj [zC t] []=.ok (.tup w) []/\qW w=true
def lY (h:XZ t)(A:Hx):WT [zC t] A=.exc "NotSteady" A:=by obtain⟨H,w,e,n⟩:=h;have E:Vf [zC t] A=.ok (.tup w) A:=Zn (Qc t) n e;refine Qr ?_;exact(zD (Z2 ((zO (zu (zl rfl) zI)).trans (PV H A)))).trans (gq ((jV (Zq ((zF ((zO (zu (zl rfl) zI)).trans E) zQ).trans rfl))).trans (gq rfl)))
def yM:Nat->List (bZ)
 |0=>[[0,1,2],[1,0,1],[2,1,0]]|1=>[[0,1,2,2],[1,0,1,2],[2,1,0,1],[2,2,1,0]]|_=>[[0,1,1,2],[1,0,2,2],[1,2,0,2],[2,2,2,0]]
def lZ (i:Nat):XZ (yM i):=by
 have h:∀i,i<3->XZ (yM i):=λi H=>by
  have c:i=0∨i=1∨i=2:=by lia
  rcases c with rfl|rfl|rfl
  ·exact⟨GY (by decide +kernel),[.int 0,.int 0,.int 1,.int 1],by kernel_rfl,rfl⟩
  ·exact⟨GY (by decide +kernel),[.int 0,.int 0,.int 1,.int 1],by kernel_rfl,rfl⟩
  ·exact⟨GY (by decide +kernel),[.int 0,.int 0,.int 1,.int 1],by kernel_rfl,rfl⟩
 match i with|0=>exact h 0 (by decide)|1=>exact h 1 (by decide)|n+2=>exact h 2 (by decide)
def l6 (s:qz n A):∃i B,Kf [.ref n] A=.ok (zC (yM i)) B/\Kn n A B:=by
 have h:=s.lt;obtain⟨j,B,e,H,kn,_⟩:=wM (ρ:=[some _,some _]) (s.ext (Ext.one)) rfl (zQ (w:=.int 3)) (by lia) (by lia)
 refine⟨j,B,qe ?_,(Kn.ext s Ext.one).trans kn⟩;refine(zD (A1:=A++[.lst [zC (yM 0),zC (yM 1),zC (yM 2)]]) (Z2 (w:=.non) ?_)).trans ?_
 ·refine(YC (zl rfl) z0 rfl).trans ((Gf z0 (by simp)).trans ?_)
  rw[List.set_append_right _ _ (ax _),Nat.sub_self]
  rfl
 refine zL (qb ((zF (zl rfl) e).trans (jP (kn.kp.get z0 (by lia)) ?_)))
 have c:j=0∨j=1∨j=2:=by lia
 rcases c with rfl|rfl|rfl<;>rfl
end
theorem O3:∀(l:bZ)(s:Int),ko l s=s+l.sum
 |[],s=>by simp[ko]|v::l,s=>by show ko l (s+v)=_;rw[O3 l,sum_cons];lia
def Ug (l:bZ):QO (l.map W.int) A=.ok (.int l.sum) A:=by unfold QO;rw[Qo];dsimp only;rw[O3,bI]
def sm (n:Nat)(f:Nat->Int):Int:=((List.range n).map f).sum
def Qu (n:Nat)(f:Nat->Int):sm (n+1) f=sm n f+f n:=by unfold sm;rw[bw,aS,sum_append];simp
def Zc {f g:Nat->Int}(h:∀i,i<n->f i=g i):sm n f=sm n g:=by
 unfold sm
 congr 1
 exact aW λi H=>h i (cE.mp H)
def KP (n:Nat):sm n (λ_=>0)=0:=by
 induction n with|zero=>rfl|succ n i=>rw[Qu,i];rfl
def ds (K:Nat)(f:Nat->Nat->Int):Int:=sm K λi=>sm K (f i)
def Gy {K:Nat}{f g:Nat->Nat->Int}(h:∀i j,i<K->j<K->f i j=g i j):ds K f=ds K g:=Zc λi a=>Zc λj H=>h i j a H
def A8 (K:Nat)(f:Nat->Nat->Int):((List.range K).flatMap λi=>(List.range K).map (f i)).sum=ds K f:=by
 have:∀m,((List.range m).flatMap λi=>(List.range K).map (f i)).sum=sm m λi=>sm K (f i):=by
  intro m
  induction m with
  |zero=>rfl|succ m I=>
   rw[bw,List.flatMap_append,sum_append,I,Qu];simp[sm]
 exact this K
section
variable {x y:bZ}{a b c k K:Nat}{S:Nat->List (bZ)}
def pv (K:Nat)(S:Nat->List (bZ))(x y:bZ):bZ:=(List.range K).map λk=>ds K λi j=>x.getD i 0 * y.getD j 0 * at2 (S k) i j
def UH:(pv K S x y).length=K:=by unfold pv;rw[ah,aN]
def MJ (h:k<K):(pv K S x y).getD k 0=ds K λi j=>x.getD i 0 * y.getD j 0 * at2 (S k) i j:=by
 unfold pv;rw[ae,ar,aV h]
 rfl
def l7 (h:zZ t)(d:a<t.length)(H:b<t.length)(i j:Nat):0<=shr t a b t.length i j/\shr t a b t.length i j<=8:=by
 rw[Gm h d H _ (ax _)]
 have:=List.count_le_length (a:=((i:Int),(j:Int))) (l:=(List.range t.length).map λc=>(at2 t a c,at2 t b c))
 rw[ah,aN]at this
 have:=h.n8
 lia
variable {N:bY}{e r:Nat}
def NF {i j:Int}(H:-1000000000000000<j)(h:j<1000000000000000):jE (.int i) (.int j) A=.ok (.int (i * j)) A:=by
 unfold jE;dsimp only;rw[aj];unfold JZ;rw[ba]
 right
 rw[ba];rw[ak,ag,ag];lia
def l8 {i j:Int}(H:-1000000000000000000<i)(h:i<1000000000000000000):jE (.int i) (.int j) A=.ok (.int (i * j)) A:=by unfold jE;dsimp only;rw[aj];unfold JZ;rw[ba];rw[ak,ag,ag];lia
def Gd (x y:bZ):Prop:=∀(i j:Nat)(A:Hx),jE (.int (x.getD i 0)) (.int (y.getD j 0)) A=.ok (.int (x.getD i 0 * y.getD j 0)) A
def M1 {U s:List W}{u v:W}(H:U[i]? =some u)(h:s[i]? =some v):(Zv (.tup U) (.tup s) U.length).at_ A i=some (some (.tup [u,v])):=by
 show some _=_;rw[H,h]
 rfl
def NZ {u v:List W}(h:u.length<=i):(Zv (.tup u) (.tup v) u.length).at_ A i=some none:=by
 show some _=_;rw[aw h]
 rfl
def Bq (h:i<K):((j0 K μ).map zt)[i]? =some (zt ((List.range K).map (μ i))):=by
 unfold j0;rw[ar,ar,aV h]
 rfl
def l9 (p:x.length=K)(o:y.length=K)(S:Gd x y)(u:K<=8)(f:∀i j,0<=μ i j/\μ i j<=8)(A:Hx):Vl [zC (j0 K μ),zt x,zt y] A=.ok (.int (ds K λi j=>x.getD i 0 * y.getD j 0 * μ i j)) A:=by
 refine Zn (A1:=[]) (by show((zC _).nr&&((zt x).nr&&((zt y).nr&&true)))=true;rw[Qw,Zk,Zk];rfl) rfl (qe ?_)
 have D:Jo zU zH [some _,some _,some (zt y)] []=.ok (Zv _ (.tup ((j0 K μ).map zt)) (x.map W.int).length) []:=GD (zl rfl) (zl rfl);obtain⟨b,v,B,e,_,a,h⟩:=ZM (nl:=4) (cap:=[2]) (tw:=yt 0 1) (ifs:=zE _) (em:=Z4 (Jo gi zU) _ jm _)
  (I:=λi w v B=>(∃l g Y C,w=[l,g,Y,C,some _])/\B=[]/\v=(((List.range i).flatMap λi=>(List.range K).map λj=>x.getD i 0 * y.getD j 0 * μ i j)).map W.int) D (by show(x.map W.int).length=K;rw[ah,p])
  (λi w v B E ⟨⟨l,g,Y,C,H⟩,a,h⟩=>by
   subst H a h;refine⟨_,[some _,some _,Y,C,some _],M1 (int_at (by lia)) (Bq E),rfl,.inl ?_⟩
   obtain⟨b,v,B,e,⟨d,c,H⟩,a,h⟩:=OK (tw:=yt 2 3) (ifs:=zE _) (em:=qi (zr jE (zr jE zH qo) qH)) (N:=K)
    (I:=λj w v B=>(∃Y C,w=[some (.int (x.getD i 0)),some (zt ((List.range K).map (μ i))),Y,C,some (zt y)])/\B=[]/\v=(((List.range i).flatMap λi=>(List.range K).map λj=>x.getD i 0 * y.getD j 0 * μ i j)++(List.range j).map λj=>x.getD i 0 * y.getD j 0 * μ i j).map W.int)
    (λj w v B t ⟨⟨Y,C,H⟩,a,h⟩=>by
     subst H a h;have r:=f i j;refine⟨_,[some _,some _,some (.int (y.getD j 0)),some (.int (μ i j)),some _],M1 (int_at (by lia)) (by rw[ar,ar,aV t];rfl),rfl,.inl ⟨[],_,_,[],rfl,Ze (y:=.int (x.getD i 0 * y.getD j 0 * μ i j)) ?_ ?_,⟨_,_,rfl⟩,rfl,?_⟩⟩
     ·exact(zF ((zF (zl rfl) (zl rfl)).trans (S i j _)) (zl rfl)).trans (NF (by lia) (by lia))
     ·rw[ah,ai,ah,aN,List.length_flatMap]
      have:((List.range i).map λi=>((List.range K).map λj=>x.getD i 0 * y.getD j 0 * μ i j).length).sum=i * K:=by
       have:((List.range i).map λi=>((List.range K).map λj=>x.getD i 0 * y.getD j 0 * μ i j).length)=List.replicate i K:=by
        refine List.eq_replicate_iff.mpr ⟨by simp,λz n=>?_⟩
        obtain⟨q,_,rfl⟩:=cC.mp n;simp
       rw[this,List.sum_replicate_nat]
      have:i * K<=7 * 8:=mul_le_mul (by lia) (by lia)
      unfold zM;lia
     ·rw[bw,aS,aS,aS,aS,aX]
      rfl)
    (λw v B _=>NZ (by rw[ah];lia)) K 0 [some _,some _,Y,C,some _] ((((List.range i).flatMap λi=>(List.range K).map λj=>x.getD i 0 * y.getD j 0 * μ i j)).map W.int) [] (by lia) ⟨⟨_,_,rfl⟩,rfl,by simp⟩
   subst H a h;refine⟨[],[some (.int (x.getD i 0)),some (zt ((List.range K).map (μ i))),d,c,some _],(((List.range i).flatMap λi=>(List.range K).map λj=>x.getD i 0 * y.getD j 0 * μ i j)++(List.range K).map λj=>x.getD i 0 * y.getD j 0 * μ i j).map W.int,[],rfl,?_,⟨_,_,_,_,rfl⟩,rfl,?_⟩
   ·unfold Z4
    rw[(GD (zl rfl) (zl rfl)),zG];have s:(Zv (.tup (y.map W.int)) (.tup (((List.range K).map (μ i)).map W.int)) (y.map W.int).length).len=K:=by show(y.map W.int).length=K;rw[ah,o]
    rw[s];exact e
   ·rw[bw,List.flatMap_append]
    simp)
  (λw v B _=>NZ (by rw[ah];lia)) ⟨⟨_,_,_,_,rfl⟩,rfl,rfl⟩
 subst a h;refine zL (qb ((jy e).trans ?_));rw[Ug,A8]
def Sk (h:zZ t)(g:qp t=(K:Int))(d:HS t K S)(f:k<K):∃l,S k=j0 K l/\∀i j,0<=l i j/\l i j<=8:=by
 obtain⟨a,b,c,H,e⟩:=Xf h (v:=k) (by lia)
 exact⟨shr t a b t.length,by have:=d a b c H;rw[e,aQ]at this;rw[<- this];rfl,λi j=>l7 h c H i j⟩
def md (a:zZ t)(n:qp t=(K:Int))(l:HS t K S)(c:x.length=K)(b:y.length=K)(s:Gd x y)(H:A[r]? =some (.lst ((List.range K).map λk=>zC (S k)))):Vx [.ref r,zt x,zt y] A=.ok (zt (pv K S x y)) A:=by
 have o:=wU a;refine qe ?_;have e:=gn (cap:=[1,2]) (mi:=qJ zH) (me:=zR Vl (zi zH (zi zU (zi qo zq)))) (ρ:=[some _,some _,some _]) (g:=λk=>.int (ds K λi j=>x.getD i 0 * y.getD j 0 * at2 (S k) i j)) (Q8 (zl rfl) H) (by show((List.range K).map _).length=K;rw[ah,aN]) (by unfold zM;lia)
  (λi p=>G9 H (by rw[ar,aV p];rfl)) (Xb H (by rw[ah,aN];exact ax _))
  (λk d=>by
   obtain⟨q,E,h⟩:=Sk a n l d;refine(zO rfl).trans ?_;rw[E,l9 c b s (by lia) h A]
   congr 2
   exact Gy λi j p f=>by rw[JB p f])
 refine zL (qb ((Z1 e).trans ?_));unfold pv zt;rw[aU]
 rfl
end
theorem VM:∀(l:bZ)(b:Int),wa l b∈b::l
 |[],b=>au ..|x::l,b=>by
  have h:=VM l (if x<b then x else b);show wa l _∈_;rcases cB.mp h with h|h
  ·rw[h]
   split
   ·exact ao _ (au ..)
   ·exact au ..
  ·exact ao _ (ao _ h)
theorem GL:∀(l:bZ)(b x:Int),x∈b::l->wa l b<=x
 |[],b,x,h=>by rw[cG.mp h];exact Int.le_refl _|y::l,b,x,h=>by
  show wa l _<=x;have H:=GL l _ (if y<b then y else b) (au ..);rcases cB.mp h with rfl|h
  ·split at H<;>split<;>lia
  ·rcases cB.mp h with rfl|h
   ·split at H<;>split<;>lia
   ·exact GL l _ x (ao _ h)
def Bo (h:l≠[]):0<minD 0 l↔∀x∈l,0<x:=by
 cases l with
 |nil=>exact absurd rfl h|cons b l=>
  constructor
  ·intro z x H
   have:wa l b<=x:=GL l b x H
   have z:0<wa l b:=z;lia
  ·intro z
   exact z _ (VM l b)
def minD_mem (h:l≠[]):minD 0 l∈l:=by
 cases l with|nil=>exact absurd rfl h|cons b l=>exact VM l b
def Bk (h:l≠[]):JN (l.map W.int) A=.ok (.int (minD 0 l)) A:=by
 unfold JN;rw[Qo];cases l with|nil=>exact absurd rfl h|cons b l=>rfl
def CQ:JM 0 (l.map W.int) A=.ok (.int (minD 0 l)) A:=by unfold JM;rw[Qo]
def oI:Option Int->W
 |none=>.non|some v=>.int v
structure Qi (K:Nat)(ks:bZ):Prop where
 lo:∀k∈ks,1<=k/\k<(K:Int)
 up:ks.Pairwise (· < ·)
 len:ks.length<=8
def Mw {f:Nat->Int}{c:Int}(h:∀i,i<n->-c<=f i/\f i<=c):-((n:Int) * c)<=sm n f/\sm n f<=(n:Int) * c:=by
 induction n with
 |zero=>show -_<=0/\(0:Int)<=0 * c;rw[Int.zero_mul];lia|succ n I=>
  have b:=I λi H=>h i (by lia)
  have a:=h n (by lia)
  have e:((n+1:Nat):Int) * c=(n:Int) * c+c:=by rw[Int.natCast_succ,Int.add_mul,one_mul]
  rw[Qu,e];lia
def Dv {j:jf}{ifs:Ev}{N:Nat}
  (p:∀i t s A,i<N->I i t s A->∃w ρ1,j.at_ A i=some (some w)/\tw w t=some ρ1/\∃A1 c a g,ifs ρ1 A=.ok (.bl true) A1/\em ρ1 s A1=.ok (c,a) g/\I (i+1) c a g)
  (H:∀t s A,I N t s A->j.at_ A N=some none):
  ∀(f i:Nat)(t:En)(s:List W)(A:Hx),i<=N->N<=i+f->I i t s A->∃e b l,qT j tw ifs em f i t s A=.ok (e,b) l/\I N e b l:=by
 intro f
 induction f with
 |zero=>
  intro i t s A h o d
  have:i=N:=by lia
  subst this;refine⟨t,s,A,?_,d⟩;unfold qT;rw[H _ _ _ d]
 |succ f n=>
  intro i t s A h o d
  by_cases u:i=N
  ·subst u
   refine⟨t,s,A,?_,d⟩;rw[qT,H _ _ _ d]
  ·obtain⟨w,ρ1,x,v,A1,c,a,g,r,q,E⟩:=p i t s A (by lia) d
   rw[qT,x];dsimp only;rw[v];dsimp only;rw[r,zG];rw[q,zG];exact n (i+1) _ _ _ (by lia) (by lia) E
def R9 {ifs:Ev}{p:W->Bool}(h:ρ[0]? =some (some (.tup ws)))(l:ws.length<=1000)(n:∀w∈ws,ifs (some w::cap.map λi=>(ρ[i]?).join) A=.ok (.bl (p w)) A):qC 1 cap (qJ zH) (qa 0) ifs (qi zH) ρ A=.ok (ws.filter p) A:=by
 obtain⟨a,g,B,e,_,f,d⟩:=ZM (nl:=1) (ifs:=ifs) (tw:=qa 0) (em:=qi zH)
  (I:=λi a g B=>(∃y,a=y::cap.map λi=>(ρ[i]?).join)/\B=A/\g=(ws.take i).filter p) (wq (zl h)) rfl
  (λi a g B H ⟨⟨y,c⟩,f,d⟩=>by
   subst c f d;have j:=aa H;have t:ws.take (i+1)=ws.take i++[ws[i]]:=by rw[List.take_add_one,j];rfl
   refine⟨ws[i],some ws[i]::cap.map λi=>(ρ[i]?).join,?_,rfl,?_⟩
   ·show((zK (.tup ws) B).map λws=>ws[i]?)=some (some ws[i])
    show some (ws[i]?)=_;rw[j]
   ·have q:=n ws[i] (aJ H)
    cases b:p ws[i] with
    |true=>
     rw[b]at q;refine .inl ⟨B,_,_,B,q,Ze (zl rfl) ?_,⟨_,rfl⟩,rfl,?_⟩
     ·have:=bC p (ws.take i)
      rw[bc]at this;unfold zM;lia
     ·rw[t,filter_append,List.filter_cons_of_pos (by rw[b])]
      rfl
    |false=>
     rw[b]at q;refine .inr ⟨B,q,⟨_,rfl⟩,rfl,?_⟩;rw[t,filter_append,List.filter_cons_of_neg (by rw[b];simp)]
     simp)
  (λa g B _=>by show some (ws[ws.length]?)=_;rw[aw (ax _)]) ⟨⟨none,rfl⟩,rfl,rfl⟩
 subst f d;rw[bG]at e;exact e
structure It (w:W):Prop where
 ty:∃ty,∀A,qZ w A=some ty
 nr:w.nr=true
 dat:∃d,∀A,qk A 7 w=some d
def kX (v:Int):It (.int v):=⟨⟨.int,λ_=>rfl⟩,rfl,⟨.int v,λ_=>rfl⟩⟩
def KS (r:bZ):It (zt r):=⟨⟨.tup,λ_=>rfl⟩,Zk r,⟨Xy r,λA=>V7 A 6 r⟩⟩
def ZH (l h:Int):W->Bool
 |.int v=>decide (l<=v)&&decide (v<=h)|_=>false
def we (s:List W):bZ:=s.map λw=>match w with|.int v=>v|_=>0
def JW (r:bZ):Bool:=(List.range (r.length-1)).all λi=>decide (r.getD i 0<r.getD (i+1) 0)
theorem Ut {l i:Int}:∀{s:List W},s.all (ZH l i)=true->s=(we s).map W.int/\∀v∈we s,l<=v/\v<=i
 |[],_=>⟨rfl,λv a=>by cases a⟩|w::s,h=>by
  rw[List.all_cons,ak]at h;obtain⟨c,b⟩:=Ut h.2;cases w with
  |int v=>
   have a:(decide _&&decide _)=true:=h.1;rw[ak,ag,ag]at a;refine⟨?_,λu H=>?_⟩
   ·show W.int v::s=W.int v::(we s).map W.int
    rw[<- c]
   ·have H:=H
    rcases cB.mp H with rfl|H
    ·exact a
    ·exact b u H
  |_=>cases h.1
def mf {s:cb}(e:r=s.map λ(v:Nat)=>(v:Int))(H:∀v∈s,v<8)(h:s.Pairwise (· < ·)):(List.range 8).filter (λi=>decide (i∈s))=s:=by
 have d:((List.range 8).filter λi=>decide (i∈s)).Pairwise (· < ·):=List.Pairwise.filter _ bW;have c:∀x,x∈(List.range 8).filter (λi=>decide (i∈s))↔x∈s:=λx=>by rw[bD,mem_range,ag];exact⟨λz=>z.2,λz=>⟨H x z,z⟩⟩
 generalize (List.range 8).filter _=us at d c;clear e H
 induction us generalizing s with
 |nil=>
  cases s with|nil=>rfl|cons v s=>exact absurd ((c v).mpr (au ..)) (by intro z;cases z)
 |cons u us I=>
  cases s with
  |nil=>exact absurd ((c u).mp (au ..)) (by intro z;cases z)|cons v s=>
   rw[List.pairwise_cons]at d h;have E:u=v:=by
    have a:=(c u).mp (au ..);have b:=(c v).mpr (au ..);rcases cB.mp a with a|a
    ·exact a
    ·rcases cB.mp b with b|b
     ·exact b.symm
     ·have:=h.1 u a
      have:=d.1 v b
      lia
   subst E
   congr 1
   refine I h.2 d.2 λx=>?_
   constructor
   ·intro z
    rcases cB.mp ((c x).mp (ao _ z)) with rfl|q
    ·exact absurd (d.1 x z) (aZ _)
    ·exact q
   ·intro z
    rcases cB.mp ((c x).mpr (ao _ z)) with rfl|q
    ·exact absurd (h.1 x z) (aZ _)
    ·exact q
def mh:∀{r:bZ},JW r=true->r.Pairwise (· < ·):=λ {r} h=>by
 rw[List.pairwise_iff_getElem];unfold JW at h;rw[bh]at h;have s:∀i (hi:i+1<r.length),r[i]<r[i+1]:=λi hi=>by
  have:=of_decide_eq_true (h i (cE.mpr (by lia)))
  rw[ae,aa (by lia),ae,aa hi]at this
  exact this
 intro i j hi H a
 induction j with
 |zero=>lia|succ j I=>
  by_cases e:i=j
  ·subst e;exact s i H
  ·have:=I (by lia) (by lia)
   have:=s j H
   lia
def pw_ris (h:r.Pairwise (· < ·)):JW r=true:=by
 unfold JW;rw[bh];intro i H;have H:=cE.mp H;rw[ag,ae,aa (by lia),ae,aa (by lia)]
 exact List.pairwise_iff_getElem.mp h i (i+1) (by lia) (by lia) (by lia)
section
variable {w:W}{lo hi:Int}{ty:Ty}
def ON {ty:Ty}(h:qZ w A=some ty):Kj [w] A=.ok (.bl (ka w)) A:=by refine qe (zL (qb ((MB (gQ (zl rfl) h) (jh (gQ (zl rfl) h))).trans ?_)));rw[Mc h]
def YI {a b c:Ev}{v:Int}(d:a ρ A=.ok (.int lo) A)(H:b ρ A=.ok (.int v) A)(h:c ρ A=.ok (.int hi) A):yG yK yK a b c ρ A=.ok (.bl (decide (lo<=v)&&decide (v<=hi))) A:=by
 unfold yG;rw[d,zG,H,zG];show R.bind (R.ok (W.bl _) A) _=_;rw[zG]
 by_cases q:lo<=v
 ·rw[aC q]
  rw[h,zG,Bool.true_and]
  rfl
 ·rw[aF q]
  rfl
def DW (h:It w)(l i:Int)(A:Hx):X5 [w,.int l,.int i] A=.ok (.bl (ZH l i w)) A:=by
 obtain⟨ty,H⟩:=h.ty;refine qe ?_;refine zL (qb ?_);have e:=(zO (ρ:=[some w,some (.int l),some (.int i)]) (a:=zi (zA 0) zq) rfl).trans (Nf (H A));cases w with
 |int v=>
  exact(wQ e).trans (YI (zl rfl) (zl rfl) (zl rfl))
 |_=>exact ZW e
def Bx (d:r.length<=100)(A:Hx):Pb [zt r] A=.ok (.bl (JW r)) A:=by
 refine qe ?_;have H:kM (r.map W.int) (some 1) none=(r.map W.int).drop 1:=by
  cases r with
  |nil=>rfl|cons v r=>
   exact List.take_of_length_le (by rw[bQ];exact ax _)
 have z:Jo (zA 0) (j7 (zA 0) (jY (zE (.int 1))) yo) [some (zt r)] A=.ok _ A:=GD (zl rfl) (by show R.ok _ A=_;rw[H])
 obtain⟨c,f,B,e,_,b,a⟩:=Dv (j:=Zv (.tup _) (.tup _) (r.map W.int).length) (tw:=yt 0 1) (ifs:=zE _) (em:=qi (zr WI (zA 0) (zA 1))) (N:=r.length-1)
  (I:=λi g f B=>(∃Y y,g=[Y,y])/\B=A/\f=(List.range i).map λi=>W.bl (decide (r.getD i 0<r.getD (i+1) 0)))
  (λi g f B n ⟨⟨Y,y,h⟩,b,a⟩=>by
   subst h b a;refine⟨.tup [.int _,.int _],[some (.int (r.getD i 0)),some (.int (r.getD (i+1) 0))],?_,rfl,B,_,_,B,rfl,Ze ((zF (zl rfl) (zl rfl)).trans rfl) (by rw[ah,aN];unfold zM;lia),⟨_,_,rfl⟩,rfl,?_⟩
   ·show some (zip2 (r.map W.int)[i]? ((r.map W.int).drop 1)[i]?)=_
    rw[int_at (by lia),List.getElem?_drop,add_comm 1 i,int_at (by lia)]
    rfl
   ·rw[bw,aS]
    rfl)
  (λg f B _=>by
   show some _=_;rw[aw (l:=(r.map W.int).drop 1) (by rw[bQ,ah];exact ax _)]
   cases (r.map W.int)[r.length-1]?<;>rfl) (r.map W.int).length 0 [none,none] [] A (by lia) (by rw[ah];lia) ⟨⟨_,_,rfl⟩,rfl,rfl⟩
 subst b a;have E:qC 2 [] (Jo (zA 0) (j7 (zA 0) (jY (zE (.int 1))) yo)) (yt 0 1) (zE (.bl true)) (qi (zr WI (zA 0) (zA 1))) [some (zt r)] B=.ok ((List.range (r.length-1)).map λi=>W.bl (decide (r.getD i 0<r.getD (i+1) 0))) B:=by
  unfold qC;rw[z,zG];show(R.nox (qT _ _ _ _ (r.map W.int).length 0 [none,none] [] B)).bind _=_;rw[e]
  rfl
 refine zL (qb ((jy E).trans ?_));show gC _ _ B=_;unfold gC;rw[Ku];show R.ok (W.bl (((List.range _).map λi=>decide _).all id)) B=_;rw[all_map]
 rfl
def rw_N (h:qZ w A=some ty)(H:ty≠.tup):ZI [w,.int lo,.int hi] A=.ok (.bl false) A:=by refine qe ?_;exact zL ((jV (jh ((gQ (zl rfl) h).trans (by rw[JO H])))).trans (zL (qb zQ)))
def rw_T (l:ws.length<=100)(a:∀x∈ws,It x)(A:Hx):ZI [.tup ws,.int lo,.int hi] A=.ok (.bl (ws.all (ZH lo hi)&&JW (we ws))) A:=by
 refine qe ?_;dsimp only[X6,mq];refine(zD ((q9 (jh (k:=true) rfl)).trans qD)).trans (zL (qb ?_));have E:mQ Wk (qC 1 [1,2] (qJ zH) (qa 0) jm (qi (zR X5 (zi zH (zi zU (zi qo zq)))))) [some (.tup ws),some (.int lo),some (.int hi)] A=.ok (.bl (ws.all (ZH lo hi))) A:=by
  refine(jy (JA (zl rfl) (by unfold zM;lia) (λw h=>(zO rfl).trans (DW (a w h) lo hi A)))).trans ?_
  show gC _ _ A=_;unfold gC;rw[Ku];show R.ok (W.bl ((ws.map _).all id)) A=_;rw[all_map]
  rfl
 cases H:ws.all _ with
 |false=>
  rw[H]at E;exact ZW E
 |true=>
  rw[H]at E;refine(wQ E).trans ((zO rfl).trans ?_);obtain⟨b,_⟩:=Ut H;have e:=Bx (r:=we ws) (by unfold we;rw[ah];exact l) A
  unfold zt at e;rw[<- b]at e;exact e
def mj (h:qZ w A=some ty)(H:ty≠.tup):Qn [w,.int lo,.int hi] A=.ok (.bl false) A:=by refine qe ?_;exact zL ((jV (YV (jh ((gQ (zl rfl) h).trans (by rw[JO H]))))).trans (zL (qb zQ)))
theorem Nn:∀{u:List W},(∀w∈u,∃d,qk A n w=some d)->∃ds,jM (qk A n) u=some ds/\ds.length=u.length
 |[],_=>⟨[],rfl,rfl⟩|w::u,h=>by
  obtain⟨d,a⟩:=h w (au ..);obtain⟨ds,e,l⟩:=Nn λx H=>h x (ao _ H);refine⟨d::ds,?_,by rw[a7,a7,l]⟩
  show(match qk A n w,jM _ u with|some d,some ds=>some _|_,_=>none)=_
  rw[a,e]
def ne_nil {u:List W}{p q:Nat}(b:B[p]? =some (.lst u))(a:B[q]? =some (.lst []))(f:∀w∈u,It w):jB (.ref p) (.ref q) B=.ok (.bl (!u.isEmpty)) B:=by
 obtain⟨ds,e,H⟩:=Nn λw h=>by obtain⟨d,g⟩:=(f w h).dat;exact⟨d,g B⟩
 have c:qk B 8 (.ref p)=some (.list ds):=by
  show(match zK _ B with|some s=>(jM _ s).map PyData.list|none=>none)=_
  have:zK (.ref p) B=some u:=by unfold zK;dsimp only;rw[b]
  rw[this];dsimp only;rw[e]
  rfl
 have E:qk B 8 (.ref q)=some (.list []):=by
  show(match zK _ B with|some s=>(jM _ s).map PyData.list|none=>none)=_
  have:zK (.ref q) B=some []:=by unfold zK;dsimp only;rw[a]
  rw[this]
  rfl
 show yU true _ _ B=_;unfold yU;rw[c,E];cases u with
 |nil=>
  have:ds=[]:=List.length_eq_zero_iff.mp H
  subst this;simp[PyData.eqv,PyData.eqvAll]
 |cons w u=>
  cases ds with|nil=>cases H|cons d ds=>simp[PyData.eqv,PyData.eqvAll]
def ml (N:ws.length<=100)(S:∀x∈ws,It x)(T:0<=lo)(P:hi<8)(A:Hx):∃b B,Qn [.tup ws,.int lo,.int hi] A=.ok (.bl b) B/\Ext A B/\((ws.all (ZH lo hi)&&JW (we ws))=true->b=true):=by
 have r:=j4 (R9 (cap:=[]) (ρ:=[some (.tup ws),some (.int lo),some (.int hi)]) (ifs:=jF (zR Kj (zi (zA 0) zq))) rfl (by lia) (λw h=>by obtain⟨ty,I⟩:=(S w h).ty;exact jh ((zO rfl).trans (ON (I A)))))
 have C:=(zF r (qO zI)).trans (ne_nil (ji z0) z0 λw h=>S w (List.mem_filter.mp h).1);generalize n:A++[O.lst _]++[O.lst []]=A2 at C;have X:Ext A A2:=⟨_,by rw[<- n,aX]⟩
 have E:=(wV (ma:=jF (wg .tup (zA 0))) (jh (k:=true) rfl)).trans C;cases q:(ws.filter λw=>!ka w).isEmpty with
 |false=>
  rw[q]at E;refine⟨false,A2,qe (zL ((jV E).trans (zL (qb zQ)))),X,λz=>?_⟩;rw[ak]at z;have H:=cF.mp z.1
  have:(ws.filter λw=>!ka w)=[]:=List.filter_eq_nil_iff.mpr λw h=>by
   have:=H w h
   cases w with|int v=>simp[ka]|_=>cases this
  rw[this]at q;cases q
 |true=>
  rw[q]at E;have Q:∀w∈ws,ka w=true:=λw h=>by
   cases d:ka w with|true=>rfl|false=>exact absurd (by rw[d];rfl) (List.filter_eq_nil_iff.mp (List.isEmpty_iff.mp q) w h)
  have o:=j4 (R9 (cap:=[1,2]) (ρ:=[some (.tup ws),some _,some _]) (A:=A2) (ifs:=jF (yG yK yK (zA 1) (zA 0) (zA 2))) (p:=λw=>!ZH lo hi w) rfl (by lia) (λw h=>by
   have j:=Q w h;cases w with
   |int v=>
    exact jh (YI (zl rfl) (zl rfl) (zl rfl))
   |_=>cases j))
  have f:=(zF o (qO zI)).trans (ne_nil (ji z0) z0 λw h=>S w (List.mem_filter.mp h).1);generalize l:A2++[O.lst _]++[O.lst []]=g at f;have y:Ext A2 g:=⟨_,by rw[<- l,aX]⟩
  cases c:(ws.filter λw=>!ZH lo hi w).isEmpty with
  |false=>
   rw[c]at f;refine⟨false,g,qe ((zD ((q9 E).trans qD)).trans (zL ((jV f).trans (zL (qb zQ))))),X.trans y,λz=>?_⟩;rw[ak]at z;have H:=cF.mp z.1
   have:(ws.filter λw=>!ZH lo hi w)=[]:=List.filter_eq_nil_iff.mpr λw h=>by rw[H w h];simp
   rw[this]at c;cases c
  |true=>
   rw[c]at f;have H:ws.all (ZH lo hi)=true:=cF.mpr λw h=>by
    cases d:ZH lo hi w with|true=>rfl|false=>exact absurd (by rw[d];rfl) (List.filter_eq_nil_iff.mp (List.isEmpty_iff.mp c) w h)
   obtain⟨s,d⟩:=Ut H;have M:Kx (zA 0) [some (.tup ws),some (.int lo),some (.int hi)] (g++[.lst ws])=.ok (.ref (g++[O.lst ws]).length) (g++[.lst ws]++[.lst (((List.range 8).filter λi=>decide (i∈(we ws).map Int.toNat)).map λ(i:Nat)=>W.int (i:Int))]):=by
    unfold Kx;rw[zl rfl,zG];unfold Gv;rw[show zK (.tup ws) _=some ws from rfl]
    dsimp only
    have:intsOf ws=some (we ws):=by
     have:=Qo (we ws)
     rw[<- s]at this;exact this
    rw[this];dsimp only;rw[(VH λv e=>by have:=d v e;lia)]
   refine⟨_,_,qe ((zD ((q9 E).trans qD)).trans ((zD ((q9 f).trans qD)).trans (zL (qb ((zF (j4 (yq (zl rfl) rfl)) M).trans (LD (by rw[<- s];exact ji z0) (by rw[aU];exact z0))))))),(X.trans y).trans (Ext.one.app),λz=>?_⟩
   rw[ak]at z;rw[ag];have t:we ws=((we ws).map Int.toNat).map λ(v:Nat)=>(v:Int):=by
    rw[aU]
    have:(we ws).map (_ ∘ Int.toNat)=(we ws).map id:=aW λv e=>by
     have:=d v e
     show((v.toNat:Nat):Int)=v;lia
    rw[this,map_id]
   rw[mf t (λv e=>by
    obtain⟨u,D,rfl⟩:=cC.mp e
    have:=d u D
    lia) (by
    rw[List.pairwise_map];refine List.Pairwise.imp_of_mem ?_ (mh z.2);intro a b L J K
    have:=d a L
    lia)]
   exact t
end
section
variable {x ks:bZ}{e K r:Nat}{w:W}
def LB (h:zZ t)(H:qp t=(K:Int))(a:ρ[0]? =some (some (zC t)))(A:Hx):zr QM (zR Kh (zi zH zq)) qU ρ A=.ok (.int ((K:Int)-1)) A:=
 (zF ((zO (zu (zl a) zI)).trans ((GN h A).trans (by rw[H]))) zQ).trans rfl
def mn (h:Qi K ks)(A:Hx):ZI [zt ks,.int 1,.int ((K:Int)-1)] A=.ok (.bl true) A:=by
 have e:=rw_T (ws:=ks.map W.int) (lo:=1) (hi:=(K:Int)-1) (by rw[ah];have:=h.len;lia) (λx H=>by obtain⟨v,_,rfl⟩:=cC.mp H;exact kX v) A
 have i:we (ks.map W.int)=ks:=by unfold we;rw[aU];exact map_id _
 have b:(ks.map W.int).all (ZH 1 _)=true:=cF.mpr λx H=>by
  obtain⟨v,a,rfl⟩:=cC.mp H
  have:=h.lo v a
  show(decide (1<=v)&&decide (v<=(K:Int)-1))=true;rw[ak,ag,ag];lia
 rw[i,b,pw_ris h.up]at e;exact e
def mu (H:zZ t)(a:qp t=(K:Int))(h:Qi K ks)(A:Hx):X4 [zC t,zt ks] A=.ok .non A:=by refine Ua (ρ:=[some (zC t),some (zt ks)]) ?_;exact(zD ((q9 (Zq (jh ((zO (zu (zl rfl) (zu zQ (zu (LB H a rfl A) zI)))).trans (mn h A))))).trans qD)).trans qD
def mx (H:zZ t)(a:qp t=(K:Int))(h:ZI [w,.int 1,.int ((K:Int)-1)] A=.ok (.bl false) A):X4 [zC t,w] A=.exc "NoKinds" A:=by refine Qr ?_;exact gq ((jV (Zq (jh ((zO (zu (zl rfl) (zu zQ (zu (LB H a rfl A) zI)))).trans h)))).trans (gq rfl))
def eq_nil (r:bZ)(A:Hx):kH (zt r) (.tup []) A=.ok (.bl (decide (r=[]))) A:=by
 show yU false _ _ A=_;unfold yU;rw[V7 A 7 r];show R.ok (W.bl (PyData.eqv _ _)) A=_;rw[Xy,PyData.eqv]
 have:=W9 r []
 rw[map_nil]at this;rw[this]
end
end G
namespace Mi
open PySem L2
def TE (m:Ev)(a:En)(w:List W):Prop:=∀A,m a A=.ok (.tup w) A
section
variable {m m':Ev}{xs ys:List W}{pl pu:Po}{l u:cm}
def kU (h:TE m ρ xs)(H:TE m' ρ ys)(l:xs.length+ys.length<=1000):TE (zr qw m m') ρ (xs++ys):=λA=>(zF (h A) (H A)).trans (by unfold qw;dsimp only;rw[aj (by unfold zM;lia)])
def NK {b a:Hx}(h:m ρ A=.ok (.tup xs) A1)(c:pl ρ A1=.ok l b)(H:pu ρ b=.ok u a):j7 m pl pu ρ A=.ok (.tup (kM xs l u)) a:=by unfold j7;rw[h,zG,c,zG,H,zG]
def Zm (h:TE m ρ xs)(a:∀A,pl ρ A=.ok l A)(H:∀A,pu ρ A=.ok u A):TE (j7 m pl pu) ρ (kM xs l u):=λA=>NK (h A) (a A) (H A)
def Qy {w:W}(h:∀A,m ρ A=.ok w A):TE (qc (zi m zq)) ρ [w]:=λA=>JC (zu (h A) zI)
def gv {x:W}(h:x∈kM xs l u):x∈xs:=List.mem_of_mem_drop (List.mem_of_mem_take h)
def ZT:(kM xs l u).length<=xs.length:=by unfold kM;rw[bc,bQ];lia
end
end Mi
namespace G
open PySem L2 Mi
section
variable {m:Ev}{o:List α}{f G:α->W}
def Ci (h:m ρ A=.ok (.ref n) A)(H:A[n]? =some (.lst (o.map f)))(l:o.length<=zM)(c:∀a∈o,me (some (f a)::cap.map λi=>(ρ[i]?).join) A=.ok (G a) A):
  qC 1 cap (qJ m) (qa 0) jm (qi me) ρ A=.ok (o.map G) A:=by
 have e:=gn (item:=λi=>(_[i]?).getD .non) (g:=λi=>((o.map G)[i]?).getD .non) (Q8 h H) (by rw[ah]) l
  (λi b=>(ZX H).trans (by rw[ar,aa b];rfl))
  ((ZX H).trans (by rw[aw (by rw[ah];exact ax _)]))
  (λi b=>by rw[ar,ar,aa b];exact c _ (aJ b))
 rw[e]
 congr 1
 apply bg
 ·simp
 ·intro i j d
  simp[aa (by simpa using d)]
def VB (h:m ρ A=.ok (.tup (o.map f)) A)(H:o.length<=zM)(c:∀a∈o,me (some (f a)::cap.map λi=>(ρ[i]?).join) A=.ok (G a) A):
  qC 1 cap (qJ m) (qa 0) jm (qi me) ρ A=.ok (o.map G) A:=by
 have e:=gn (item:=λi=>(_[i]?).getD .non) (g:=λi=>((o.map G)[i]?).getD .non) (wq h) (by show(o.map f).length=_;rw[ah]) H
  (λi b=>by show some _[i]? =_;rw[ar,aa b];rfl)
  (by show some _[o.length]? =_;rw[aw (by rw[ah];exact ax _)])
  (λi b=>by rw[ar,ar,aa b];exact c _ (aJ b))
 rw[e]
 congr 1
 apply bg
 ·simp
 ·intro i j d
  simp[aa (by simpa using d)]
end
section
variable {x y ks m:bZ}{ps:bY}{e k K r:Nat}{S:Nat->List (bZ)}{w:W}
def Sl (m:bZ):Prop:=∀v∈m,-99<=v/\v<=99
def Wd (h:Sl m)(i:Nat):-99<=m.getD i 0/\m.getD i 0<=99:=by
 rw[ae]
 by_cases H:i<m.length
 ·rw[aa H]
  exact h _ (aJ H)
 ·rw[aw (by lia)]
  exact⟨by decide,by decide⟩
def my (h:Sl x):Gd x y:=λi j A=>l8 (by have:=Wd h i;lia) (by have:=Wd h i;lia)
def mz {u v w:Int}(a:-99<=u/\u<=99)(H:-99<=v/\v<=99)(h:0<=w/\w<=8):-78408<=u * v * w/\u * v * w<=78408:=by
 have e:(u * v * w).natAbs=u.natAbs * v.natAbs * w.natAbs:=by rw[Int.natAbs_mul,Int.natAbs_mul]
 have:=mul_le_mul (mul_le_mul (show u.natAbs<=99 by lia) (show v.natAbs<=99 by lia)) (show w.natAbs<=8 by lia)
 lia
def mA (H:zZ t)(d:qp t=(K:Int))(c:HS t K S)(g:Sl m)(k:Nat):-5018112<=(pv K S m m).getD k 0/\(pv K S m m).getD k 0<=5018112:=by
 have f:=wU H
 by_cases a:k<K
 ·obtain⟨p,E,h⟩:=Sk H d c a
  rw[MJ a];have o:∀i,i<K->-_<=sm K _/\sm K (λj=>m.getD i 0 * m.getD j 0 * at2 (S k) i j)<=_ * 78408:=λi l=>Mw λj b=>by rw[E,JB l b];exact mz (Wd g i) (Wd g j) (h i j)
  have n:=Mw o;unfold ds;dsimp only
  have:(K:Int)=1∨(K:Int)=2∨(K:Int)=3∨(K:Int)=4∨(K:Int)=5∨(K:Int)=6∨(K:Int)=7∨(K:Int)=8:=by lia
  rcases this with e|e|e|e|e|e|e|e<;>rw[e]at n<;>lia
 ·rw[ae,aw (by rw[UH];lia)]
  exact⟨by decide,by decide⟩
structure J8 (K:Nat)(ps:bY):Prop where
 l1:1<=ps.length
 l4:ps.length<=4
 row:∀m∈ps,m.length=K/\Sl m
def pq (K:Nat)(S:Nat->List (bZ))(p:bY)(k:Nat):Int:=(p.map λm=>(pv K S m m).getD k 0).sum
def mB:pq K S (m::ps) k=(pv K S m m).getD k 0+pq K S ps k:=by unfold pq;rw[a5,sum_cons]
theorem M5 (H:zZ t)(b:qp t=(K:Int))(a:HS t K S)(k:Nat):∀{p:bY},(∀m∈p,Sl m)->-(5018112 * (p.length:Int))<=pq K S p k/\pq K S p k<=5018112 * (p.length:Int)
 |[],_=>⟨by show -_<=(0:Int);decide,by show(0:Int)<=5018112 * _;decide⟩|m::p,h=>by have e:=mA H b a (h m (au ..)) k;have d:=M5 H b a k λx c=>h x (ao _ c);rw[mB,a7];lia
def J8.bd (h:J8 K ps)(H:zZ t)(b:qp t=(K:Int))(a:HS t K S)(k:Nat):-20072448<=pq K S ps k/\pq K S ps k<=20072448:=by
 have:=M5 H b a k λm c=>(h.row m c).2
 have:=h.l4
 lia
abbrev lst (K:Nat)(S:Nat->List (bZ))(s:bZ)(p:bY):Int:=minD 0 (s.map λk=>-(pq K S p k.toNat))
def J5 (K:Nat)(S:Nat->List (bZ))(s:bZ)(p:bY):cm:=if lst K S s p<=0 then none else some (pq K S p 0/lst K S s p+1)
abbrev gj (K:Nat)(S:Nat->List (bZ))(p:bY):bZ:=(List.range K).map (pq K S p)
def KZ (h:k<K):(gj K S ps).getD k 0=pq K S ps k:=by
 rw[ae,ar,aV h]
 rfl
def O4 (o:zZ t)(D:qp t=(K:Int))(C:HS t K S)(b:Qi K ks)(q:J8 K ps)(I:A[r]? =some (.lst ((List.range K).map λk=>zC (S k)))):
  ∃B,Rt [.ref r,zt ks,.tup (ps.map zt)] A=.ok (oI (J5 K S ks ps)) B/\Ext A B:=by
 have Z:=wU o;have l4:=q.l4;have M:yb (qC 1 [0] (qJ qo) _ jm (qi (zR Vx (zi zU (zi zH (zi zH zq)))))) [some _,some (zt ks),some _,none,none,none] A=.ok _ (A++[.lst (ps.map λm=>zt _)]):=
  j4 (VB (zl rfl) (by unfold zM;lia) λm hm=>by obtain⟨y,P⟩:=q.row m hm;exact(zO (zu (zl rfl) (zu (zl rfl) (zu (zl rfl) zI)))).trans (md o D C y y (my P) I))
 generalize h:A++[O.lst _]=A1 at M;have X:Ext A A1:=by rw[<- h];exact Ext.one
 have h1:A1[A.length]? =some (.lst (ps.map λm=>zt (pv K S m m))):=by rw[<- h];exact z0
 have p:A1[r]? =some (.lst ((List.range K).map λk=>zC (S k))):=by rw[<- h];exact ji I
 have U:mQ ja (jc zH) [some (.ref r),some (zt ks),some (.tup (ps.map zt)),some (.ref A.length),none,none] A1=.ok (.int (K:Int)) A1:=by
  rw[jy (yq (zl rfl) (by unfold zK;dsimp only;rw[p]))]
  unfold ja;rw[ah,aN]
 have L:=gn (cap:=[3]) (me:=mQ QO _) (N:=K) (g:=λk=>.int (pq K S ps k)) (Zd U (wK (by lia))) rfl (by unfold zM;lia) (λi hi=>wR hi) (wN (by lia)) (λi hi=>by
  rw[bI];have E:=Ci (cap:=[0]) (m:=zU) (me:=zr qm zH zU) (ρ:=[some _,some _]) (zl rfl) h1 (by unfold zM;lia) λm hm=>(zF (zl rfl) (zl rfl)).trans (KY (by rw[UH];omega))
  refine(jy E).trans ?_
  have:(ps.map λm=>W.int ((pv K S m m).getD i 0))=(ps.map λm=>(pv K S m m).getD i 0).map W.int:=by rw[aU];rfl
  rw[this,Ug]
  rfl)
 have u:((List.range K).map λk=>W.int (pq K S ps k))=(gj K S ps).map W.int:=by rw[aU];rfl
 rw[u]at L;have f:=j4 L;generalize c:A1++[O.lst _]=A2 at f;have h2:A2[A1.length]? =some (.lst ((gj K S ps).map W.int)):=by rw[<- c];exact z0
 have Y:(gj K S ps).length=K:=by rw[ah,aN]
 have J:=VB (cap:=[4]) (ρ:=[some (.ref r),some (zt ks),some (.tup (ps.map zt)),some (.ref A.length),some _,none]) (G:=λk=>.int (-(pq K S ps k.toNat))) (m:=zA 1) (me:=jN kE (zr qm zU zH)) (zl rfl) (by have:=b.len;unfold zM;lia) (λk T=>by
  have Q:=b.lo k T;obtain⟨j,rfl⟩:=aY (show 0<=k by lia)
  refine(UI ((zF (zl rfl) (zl rfl)).trans (jP h2 (int_at (by lia))))).trans ?_
  rw[KZ (by lia)]
  rfl)
 have v:(ks.map λk=>W.int (-(pq K S ps k.toNat)))=(ks.map λk=>-(pq K S ps k.toNat)).map W.int:=by rw[aU];rfl
 rw[v]at J;have d:=(jy J).trans CQ;have x:lst K S ks ps<=20072448:=by
  by_cases H:ks=[]
  ·subst H
   show(0:Int)<=_
   decide
  ·have w:(ks.map λk=>-(pq K S ps k.toNat))≠[]:=by intro z;exact H (List.map_eq_nil_iff.mp z)
   obtain⟨k,_,e⟩:=cC.mp (minD_mem w)
   have:=(q.bd o D C) k.toNat
   show minD 0 _<=_;lia
 refine⟨A2,qe ?_,X.trans (by rw[<- c];exact Ext.one)⟩
 show _=R.ok (Fl.rt (oI (if minD 0 _<=0 then none else some (pq K S ps 0/minD 0 _+1)))) A2;have a:minD 0 _<=20072448:=x;generalize minD 0 _=l at d a ⊢;refine(zD (ql M)).trans ((zD (ql f)).trans ((zD (ql d)).trans ?_));have E:zr yK g8 qA [some (.ref r),some (zt ks),some (.tup (ps.map zt)),some (.ref A.length),some (.ref A1.length),some (.int l)] A2=.ok (.bl _) A2:=(zF (zl rfl) zQ).trans rfl
 by_cases n:l<=0
 ·rw[aC n]at E
  rw[aj n];exact zL ((jV E).trans (zL (qb zQ)))
 ·rw[aF n]at E
  rw[av n];refine(zD ((q9 E).trans qD)).trans (zL (qb ?_));exact(zF ((zF ((zF (zl rfl) zQ).trans ((jP (s:=0) h2 (int_at (by lia))).trans (by rw[KZ (by lia)]))) (zl rfl)).trans (Xc (by lia) (by lia))) zQ).trans rfl
end
def UW (n:Nat)(f g:Nat->Int):sm n (λi=>f i+g i)=sm n f+sm n g:=by
 induction n with|zero=>rfl|succ n I=>rw[Qu,Qu,Qu,I];lia
def NV {a:Nat}(H:a<n)(v:Int):sm n (λi=>if i=a then v else 0)=v:=by
 induction n with
 |zero=>lia|succ n I=>
  rw[Qu]
  by_cases h:a=n
  ·subst h
   have:sm a (λi=>if i=a then v else 0)=sm a λ_=>0:=Zc λi b=>av (by lia)
   rw[this,KP,aj rfl];lia
  ·rw[I (by lia),av (by lia)]
   lia
def mD {K a b:Nat}(c:a<K)(H:b<K)(f g:Nat->Int)(d:Nat->Nat->Int):ds K (λi j=>f i * g j * Z9 d a b (d a b+1) i j)=ds K (λi j=>f i * g j * d i j)+f a * g b:=by
 have e:∀i j,f i * g j * Z9 d a b (d a b+1) i j=f i * g j * d i j+(if i=a then(if j=b then f a * g b else 0) else 0):=λi j=>by
  unfold Z9
  by_cases h:i=a
  ·by_cases l:j=b
   ·subst h l
    rw[aj ⟨rfl,rfl⟩,aj rfl,aj rfl,Int.mul_add,mul_one]
   ·rw[av (λz=>l z.2),aj h,av l,add_zero]
  ·rw[av (λz=>h z.1),av h,add_zero]
 rw[Gy λi j _ _=>e i j];unfold ds
 have:∀i,sm K (λj=>f i * g j * d i j+(if i=a then _ else 0))=sm K (λj=>f i * g j * d i j)+(if i=a then f a * g b else 0):=λi=>by
  rw[UW]
  by_cases h:i=a
  ·rw[aj h]
   congr 1
   exact(Zc λj _=>aj h).trans (NV H _)
  ·rw[av h]
   congr 1
   exact(Zc λj _=>av h).trans (KP K)
 rw[Zc λi _=>this i,UW,NV c]
section
variable {x y:bZ}{a b c e k K:Nat}{S:Nat->List (bZ)}
def mv (x:bZ)(v:Int):Int:=x.getD v.toNat 0
def dt (t:bY)(x y:bZ)(a b:Nat):Int:=sm t.length λc=>mv x (at2 t a c) * mv y (at2 t b c)
theorem NA (h:zZ t)(H:qp t=(K:Int))(e:a<t.length)(d:b<t.length):∀n,n<=t.length->ds K (λi j=>x.getD i 0 * y.getD j 0 * shr t a b n i j)=sm n λc=>mv x (at2 t a c) * mv y (at2 t b c)
 |0,_=>by
  have:ds K (λi j=>x.getD i 0 * y.getD j 0 * shr t a b 0 i j)=ds K λ_ _=>0:=Gy λi j _ _=>mul_zero _
  rw[this];unfold ds;rw[Zc λi _=>KP K,KP]
  rfl
 |n+1,hn=>by
  rw[Qu,<- NA h H e d n (by lia)]
  exact mD (K2 h H e (show n<t.length by lia)).2 (K2 h H d (show n<t.length by lia)).2 _ _ _
def ML (c:zZ t)(d:qp t=(K:Int))(f:∀a b,a<t.length->b<t.length->wF t K a b=S (at2 t a b).toNat)(H:a<t.length)(h:b<t.length):mv (pv K S x y) (at2 t a b)=dt t x y a b:=by unfold mv;rw[MJ (K2 c d H h).2,<- f a b H h];unfold dt;rw[<- NA c d H h t.length (ax _)];exact Gy λi j g e=>by unfold wF;rw[JB g e]
def yA (t:bY)(x:bZ):bY:=j0 t.length λa b=>mv x (at2 t a b)
def J1 (M N:bY):bY:=j0 M.length λa b=>sm M.length λc=>at2 M a c * at2 N c b
def Xo (H:a<t.length)(h:b<t.length):at2 (yA t x) a b=mv x (at2 t a b):=by unfold yA;exact JB H h
def Zs:(yA t x).length=t.length:=by unfold yA;exact Oj
def mE (e:zZ t)(g:qp t=(K:Int))(f:∀a b,a<t.length->b<t.length->wF t K a b=S (at2 t a b).toNat):J1 (yA t x) (yA t y)=yA t (pv K S x y):=by unfold J1;rw[Zs];refine aW λa H=>aW λb h=>?_;have H:=cE.mp H;have h:=cE.mp h;show _=mv _ _;rw[ML e g f H h];exact Zc λc d=>by rw[Xo H d,Xo d h,e.sy c b d h]
def mF (h:zZ t)(s:ki t)(j:qp t=(K:Int))(i:k<K):∃b,b<t.length/\at2 t 0 b=(k:Int):=by
 obtain⟨a,b,H,f,e⟩:=Xf h (v:=k) (by lia)
 have n:=h.n1;have l:((k:Int),(k:Int))∈QT t a a:=by exact cC.mpr ⟨b,cE.mpr f,by rw[e]⟩
 obtain⟨c,d,E⟩:=cC.mp ((s 0 0 a a n n H H (by rw[(h.dg 0 0 n n).mpr rfl,(h.dg a a H H).mpr rfl])).mem_iff.mpr l)
 injection E with g _
 exact⟨c,cE.mp d,g⟩
variable {M N:bY}{r q:Nat}
def LL.at (h:LL M r A)(a:i<M.length):∃p,qm (.ref r) (.int (i:Int)) A=.ok (.ref p) A/\A[p]? =some (.lst ((M.getD i []).map W.int)):=by
 obtain⟨K,b,c,H⟩:=h;refine⟨K.getD i 0,jP b ?_,H i a⟩;rw[ar,aa (by lia),ae,aa (by lia)]
 rfl
def LL.of_row {b:Nat}(H:A[r]? =some (.lst ((List.range M.length).map λi=>W.ref (b+i))))(h:∀i,i<M.length->A[b+i]? =some (.lst ((M.getD i []).map W.int))):LL M r A:=by
 refine⟨(List.range M.length).map λi=>b+i,by rw[H,aU];rfl,by simp,λi a=>?_⟩
 rw[ae,ar,aV a];exact h i a
def AV {j:jf}{p:Nat->W}(N:M.length<=8)(s:mi ρ A=.ok j A)(n:j.len=M.length)(t:∀B,Ext A B->∀i,i<M.length->j.at_ B i=some (some (p i)))(d:∀B,Ext A B->j.at_ B M.length=some none)
  (u:∀B,Ext A B->∀i,i<M.length->me (some (p i)::cap.map λi=>(ρ[i]?).join) B=.ok (.ref B.length) (B++[.lst ((M.getD i []).map W.int)])):
  ∃r B,yb (qC 1 cap mi (qa 0) (zE (.bl true)) (qi me)) ρ A=.ok (.ref r) B/\LL M r B/\Ext A B:=by
 obtain⟨a,o,B,e,_,⟨l,H,f⟩,h⟩:=ZM (nl:=1) (tw:=qa 0) (ifs:=zE _)
  (I:=λi a o B=>(∃y,a=y::cap.map λi=>(ρ[i]?).join)/\(B.length=A.length+i/\Ext A B/\∀c,c<i->B[A.length+c]? =some (.lst ((M.getD c []).map W.int)))/\o=(List.range i).map λc=>W.ref (A.length+c)) s n
  (λi a o B q ⟨⟨y,b⟩,⟨l,H,f⟩,h⟩=>by
   subst b h;refine⟨_,_,t B H i q,rfl,.inl ⟨B,_,_,B++[.lst _],rfl,Ze (y:=.ref (A.length+i)) (by rw[<- l];exact u B H i q) (by rw[ah,aN];unfold zM;lia),⟨_,rfl⟩,⟨by rw[ai,l];rfl,H.app,λc g=>?_⟩,by rw[bw,aS];rfl⟩⟩
   by_cases z:c=i
   ·subst z;rw[<- l];exact z0
   ·exact ji (f c (by lia)))
  (λa o B ⟨_,⟨_,H,_⟩,_⟩=>d B H) ⟨⟨none,rfl⟩,⟨rfl,Ext.refl,λc g=>absurd g (bO _)⟩,rfl⟩
 subst h;refine⟨_,_,j4 e,LL.of_row z0 λi q=>ji (f i q),H.app⟩
def mG (H:zZ t)(n:qp t=(K:Int))(j:x.length=K)(A:Hx):∃r B,Vk [zC t,zt x] A=.ok (.ref r) B/\LL (yA t x) r B/\Ext A B:=by
 have N:=H.n8;have a:(t.map zt).length=t.length:=ah ..;obtain⟨r,B,e,h,X⟩:=AV (M:=yA t x) (ρ:=[some _,some _]) (cap:=[1]) (mi:=qJ (zA 0)) (by rw[Zs];exact N) (wq (zl rfl)) (by rw[Zs];exact a)
  (λB _ i o=>by rw[Zs]at o;show some (_[i]?)=_;rw[JL o]) (λB _=>by rw[Zs];show some (_[t.length]?)=_;rw[aw (by lia)])
  (λB _ i o=>by
   rw[Zs]at o;have d:=H.sq _ (j9 o);have E:=Oq (cap:=[1]) (A:=B) (ρ:=[some (zt (t.getD i [])),some (zt x)]) (m:=zA 0) (me:=zr qm (zA 1) (zA 0)) (G:=λv=>.int (mv x v)) (zl rfl) (by unfold zM;lia) (λv c=>by
    obtain⟨u,rfl⟩:=aY (H.lo _ (j9 o) v c).1;have l:u<K:=by
     obtain⟨b,f,g⟩:=bf c
     have:=KU H o (show b<t.length by lia)
     unfold at2 at this;rw[ae,aa f,g]at this
     have:(u:Int)<qp t:=this
     lia
    refine(zF (zl rfl) (zl rfl)).trans ((KY (by lia)).trans ?_)
    unfold mv;rw[aQ])
   refine(j4 E).trans ?_
   have:(yA t x).getD i []=(List.range t.length).map λb=>mv x (at2 t i b):=by
    unfold yA j0;rw[ae,ar,aV o]
    rfl
   rw[this,Yi _ 0,d,aU]
   rfl)
 refine⟨r,B,?_,h,X⟩;refine qe ?_;exact zL (qb e)
def mH (y:∀r∈M,r.length=M.length)(P:∀r∈N,r.length=N.length)(U:N.length=M.length)(n8:M.length<=8)(w:∀c b,-1000000000000000<at2 N c b/\at2 N c b<1000000000000000)(h1:LL M r A)(h2:LL N q A):∃(X:cb) (B:Hx),Vo [.ref r,.ref q] A=.ok (.ref A.length) B/\B[A.length]? =some (.lst (X.map W.ref))/\X.length=M.length/\(∀c,c<M.length->A.length<X.getD c 0/\B[X.getD c 0]? =some (.lst (((J1 M N).getD c []).map W.int)))/\Ext A B:=by
 obtain⟨ks,g1,g2,g3⟩:=id h1;have h:(ks.map W.ref).length=M.length:=by rw[ah,g2]
 have num:∀(B:Hx)(p a b:Nat),Ext A B->B[p]? =some (.lst _)->a<M.length->b<M.length->
   mQ QO _ [some _,some _,some _] B=.ok (.int (sm M.length λc=>at2 M a c * at2 N c b)) B:=λB p a b H n l x=>by
  have s:=y _ (j9 l);have E:=gn (N:=M.length) (Zd (m:=mQ ja (jc (zA 2))) (ρ:=[some _,some _,some (.ref p)]) ((jy (yq (zl rfl) (by unfold zK;dsimp only;rw[n]))).trans (by unfold ja;rw[ah,s])) (wK (by lia))) rfl (by unfold zM;lia) (λi hi=>wR hi) (wN (by lia)) (λc t=>by
   rw[bI];obtain⟨T,S,v⟩:=LL.at (LL.mono H h2) (i:=c) (by lia)
   have L:=P _ (j9 (a:=c) (by lia))
   have d:zr qm (zA 3) (zA 0) (some _::[0,1,2].map λi=>(([some (.int (b:Int)),some (.ref q),some _]:En)[i]?).join) B=.ok (.int (at2 M a c)) B:=(zF (zl rfl) (zl rfl)).trans (jP n (int_at (by lia)))
   have g:zr qm (zr qm (zA 2) (zA 0)) (zA 1) (some _::[0,1,2].map λi=>(([some _,some _,some (.ref p)]:En)[i]?).join) B=.ok (.int (at2 N c b)) B:=(zF ((zF (zl rfl) (zl rfl)).trans S) (zl rfl)).trans (jP v (int_at (by lia)))
   exact(zF d g).trans (NF (w c b).1 (w c b).2))
  have em:((List.range M.length).map λc=>W.int (at2 M a c * at2 N c b))=((List.range M.length).map λc=>at2 M a c * at2 N c b).map W.int:=by rw[aU];rfl
  rw[em]at E;refine(jy E).trans ?_;rw[Ug]
  rfl
 obtain⟨D,B,e,⟨X,d,g,o⟩,H,Y,f⟩:=wm (j:=⟨λA i=>(zK (.ref r) A).map λws=>ws[i]?,(ks.map W.ref).length⟩) (st:=turn (qa 3) (zS (Jt (Zt Qv (zA 2) _)) qj)) (N:=M.length)
  (I:=λi Z B=>(∃X:cb,B[A.length]? =some (.lst (X.map W.ref))/\X.length=i/\∀c,c<i->A.length<X.getD c 0/\B[X.getD c 0]? =some (.lst (((J1 M N).getD c []).map W.int)))/\Ext A B/\∃Y,Z=[some _,some _,some _,Y])
  (λa Z B l ⟨⟨X,d,g,o⟩,H,Y,f⟩=>by
   subst f;have n:=H.at (g3 a l);have u:=gH d;have E:=gn (cap:=[1,3]) (N:=M.length) (Zd (m:=mQ ja (jc (zA 3))) (ρ:=[some (.ref r),some _,some (.ref A.length),some (.ref _)]) ((jy (yq (zl rfl) (by unfold zK;dsimp only;rw[n]))).trans (by unfold ja;rw[ah,(y _ (j9 l))])) (wK (by lia))) rfl (by unfold zM;lia) (λi hi=>wR hi) (wN (by lia)) (λb x=>by rw[bI];exact num B _ a b H n l x)
   have Q:(J1 M N).getD a []=(List.range M.length).map λb=>sm M.length λc=>at2 M a c * at2 N c b:=by
    unfold J1 j0;rw[ae,ar,aV l]
    rfl
   have C:=j4 E;have em:((List.range M.length).map λb=>W.int (sm M.length λc=>at2 M a c * at2 N c b))=((J1 M N).getD a []).map W.int:=by rw[Q,aU];rfl
   rw[em]at C;refine⟨.ref _,_,_,G9 (H.at g1) (by rw[ar,aa (by lia),ae,aa (by lia)];rfl),(kh rfl).trans ((zD (Z2 ((YC (zl rfl) d C).trans (Gf (ji d) (by rw[ah];lia))))).trans qD),⟨X++[B.length],?_,by rw[ai,g];rfl,λc t=>?_⟩,(H.app).set (ax _),_,rfl⟩
   ·rw[aK (by rw[ai];lia),aS]
    rfl
   ·by_cases z:c=a
    ·subst z
     have:(X++[B.length]).getD c 0=B.length:=by rw[ae,az (by lia),g,Nat.sub_self];rfl
     rw[this,aH (by lia)]
     exact⟨u,z0⟩
    ·have:(X++[B.length]).getD c 0=X.getD c 0:=by rw[ae,aq (by lia),ae]
     obtain⟨K,J⟩:=o c (by lia)
     rw[this,aH (by lia)]
     exact⟨K,ji J⟩)
  (λZ B ⟨_,H,_⟩=>Xb (H.at g1) (by rw[h];exact ax _)) M.length 0 [some (.ref r),some (.ref q),some (.ref A.length),none] _ (by lia) ⟨⟨[],z0,rfl,λc t=>absurd t (bO _)⟩,Ext.one,_,rfl⟩
 subst f;refine⟨X,B,?_,d,g,o,H⟩;refine qe ?_;refine(zD (ρ1:=[some (.ref r),some (.ref q),some _,Y]) ((yP (Q8 (zl rfl) (ji g1))).trans ?_)).trans (zL (qb (zl rfl)));rw[h];rw[h]at e;exact e
theorem O9:∀{l:bZ}{v:Int},v∈l->∃j,Jl (.int v) (l.map W.int)=some j/\j<l.length/\l.getD j 0=v
 |u::l,v,h=>by
  by_cases q:u=v
  ·subst q
   refine⟨0,?_,Nat.zero_lt_succ _,rfl⟩;show(if QP _ _ then some 0 else _)=_;rw[aj (by show _=true;exact bV _)]
  ·obtain⟨j,e,a,H⟩:=O9 ((cB.mp h).resolve_left (Ne.symm q))
   refine⟨j+1,?_,Nat.succ_lt_succ a,H⟩;show(if QP _ _ then some 0 else(Jl _ _).map (· + 1))=_;rw[av (by show ¬((u==v)=true);rw[aL];exact q),e]
   rfl
def MW:∀r∈yA t x,r.length=(yA t x).length:=Nm
end
section
variable {x y m:bZ}{ps:bY}{b c e k K r p q:Nat}{S:Nat->List (bZ)}{C:Hx}{w:W}
def mI (s:Sl x)(c b:Nat):-1000000000000000<at2 (yA t x) c b/\at2 (yA t x) c b<1000000000000000:=by
 by_cases h:c<t.length
 ·by_cases H:b<t.length
  ·rw[Xo h H]
   have:=Wd s (at2 t c b).toNat
   unfold mv;lia
  ·have:at2 (yA t x) c b=0:=by
    unfold at2 yA j0;rw[ae (l:=List.map _ _),ar,aV h];rw[ae,aw (by simp;lia)]
    rfl
   rw[this];exact⟨by decide,by decide⟩
 ·have:at2 (yA t x) c b=0:=by
   unfold at2 yA j0;rw[ae (l:=List.map _ _),aw (by simp;lia)]
   rfl
  rw[this];exact⟨by decide,by decide⟩
abbrev ad (K:Nat)(S:Nat->List (bZ))(L:bY)(v:bZ)(a:Nat):bZ:=(List.range K).map λk=>pq K S L k+if k < a then v.getD k 0 else 0
def mK:pq K S (ps++[m]) k=pq K S ps k+(pv K S m m).getD k 0:=by unfold pq;rw[aS,sum_append];simp
def mL {v:bZ}:ad K S L v 0=gj K S L:=aW λk _=>by rw[av (by lia),add_zero]
def mM:ad K S L (pv K S m m) K=gj K S (L++[m]):=aW λk h=>by rw[aj (cE.mp h),mK]
def mO {v:bZ}{a:Nat}(h:a < K):((ad K S L v a).map W.int)[a]? =some (.int (pq K S L a)):=by
 rw[ar,ar,aV h];show some (W.int (pq K S L a + if a < a then _ else 0))=_;rw[av (by lia),add_zero]
def mP {v:bZ}{a:Nat}(h:a < K):((ad K S L v a).map W.int).set a (.int (pq K S L a + v.getD a 0))=(ad K S L v (a + 1)).map W.int:=by
 apply bg
 ·simp
 ·intro i b H
  rw[List.getElem_set]
  by_cases q:a=i
  ·subst q
   simp
  ·rw[av q]
   simp[List.getElem_map,List.getElem_range]
   by_cases z:i < a
   ·rw[aj z,aj (by lia)]
   ·rw[av z,av (by lia)]
def mR {M i:Ev}{v:Nat}{x y:Int}(o:M ρ C=.ok (.ref r) C)(a:i ρ C=.ok (.int (v:Int)) C)(H:C[r]? =some (.lst ws))(h:ws[v]? =some (.int x))(e:me ρ C=.ok (.int y) C):YW M i me ρ C=.ok (.nx ρ) (C.set r (.lst (ws.set v (.int (x+y))))):=by
 unfold YW;rw[o,zG,a,zG];dsimp only;rw[aj (by lia),H]
 dsimp only;rw[aQ,h];dsimp only;rw[e,zG];show R.bind _ _=_;rw[Nh H (cD.mp h).1,zG]
abbrev iO (n:Nat):Option W:=some (.int (n:Int))
abbrev aI:Ex:=zS (YW qo g8 (zr qm (zr qm gi qA) (KR YH (zr qm zH qA) g8))) qj
abbrev aO:Ex:=zS (je 4 (zR Vk (zi zH (zi qH zq)))) (zS (je 4 (zR Vo (zi gi (zi gi zq)))) (zS (w5 (gR (mQ ja (jc qo))) (qa 5) aI) qj))
abbrev fA (t:bY)(p:bY)(a Y y:Option W):En:=[some (zC t),some (.tup (p.map zt)),rO 1,a,Y,y]
def mS {v:bZ}{A p:Nat}{y3:Option W}{B:cb}(a:zZ t)(s:ki t)(i:qp t=(K:Int))(x:v.length=K)(I:C[1]? =some (.lst ((ad K S L v A).map W.int)))(g:C[p]? =some (.lst (B.map W.ref)))(d:0<B.length)(q:C[B.getD 0 0]? =some (.lst (((yA t v).getD 0 []).map W.int)))(c:A < K):
  aI (fA t ps y3 (rO p) (iO A)) C=.ok (.nx (fA t ps y3 (rO p) (iO A))) (C.set 1 (.lst ((ad K S L v (A + 1)).map W.int))):=by
 have N:=a.n1;obtain⟨b,z,n⟩:=mF a s i c;have f:=a.sq _ (j9 N);have h:(A:Int)∈t.getD 0 []:=by
  rw[<- n];unfold at2;rw[ae (l:=t.getD 0 []),aa (by lia)]
  exact aJ _
 obtain⟨j,E,y,H⟩:=O9 h;have u:zr qm zH qA (fA t ps y3 (rO p) (iO A)) C=.ok _ C:=(zF (zl rfl) zQ).trans (JH N);have r:KR YH (zr qm zH qA) g8 (fA t ps y3 (rO p) (iO A)) C=.ok (.int (j:Int)) C:=by
  unfold KR;rw[u,zG];show R.bind _ _=_;rw[show g8 _ C=.ok _ C from zl rfl,zG]
  unfold YH;dsimp only;rw[aj,E];show(true&&((t.getD 0 []).map W.int).all ym)=true;rw[Bool.true_and,bh];intro w D;obtain⟨v,_,rfl⟩:=cC.mp D
  rfl
 have e:((yA t v).getD 0 []).length=t.length:=by rw[Nm _ (j9 (t:=yA t v) (by rw[Zs];exact N))];exact Zs
 have o:zr qm (zr qm gi qA) (KR YH (zr qm zH qA) g8) (fA t ps y3 (rO p) (iO A)) C=.ok (.int (v.getD A 0)) C:=by
  refine(zF ((zF (zl rfl) zQ).trans (jP g (by rw[ar,aa d,ae,aa d];rfl))) r).trans (jP q ?_)
  rw[int_at (by lia)]
  congr 2
  show at2 _ 0 j=_;rw[Xo N (by lia)]
  unfold mv;rw[show at2 t 0 j=_ from H,aQ]
 refine(zD (mR (zl rfl) (zl rfl) I (mO c) o)).trans (qD.trans ?_);rw[mP c]
def Ng (a:zZ t)(s:ki t)(f:qp t=(K:Int))(w:HS t K S)(h:∀m∈ps,m.length=K/\Sl m)(U:ps.length<=4)(A:Hx):RK [zC t,.tup (ps.map zt)] A=.ok (.ref A.length) (A++[.lst ((gj K S ps).map W.int)]):=by
 have T:=wU a;have n1:=a.n1;have o:(ps.map zt).length=ps.length:=ah _;have E:zr jE (qF (zi qA zq)) (zR kT (zi zH zq)) [some (zC t),some (.tup (ps.map zt)),none,none,none,none] []=.ok (.ref 1) [.lst [.int 0],.lst ((gj K S []).map W.int)]:=by
  refine(zF (qO (zu zQ zI)) ((zO (zu (zl rfl) zI)).trans ((Yz a _).trans (by rw[f])))).trans ?_
  show(if jA (K:Int)&&decide ([W.int 0].length * (K:Int).toNat<=zM) then R.ok (W.ref 1) [.lst [.int 0],.lst (List.replicate (K:Int).toNat [W.int 0]).flatten] else .bad)=_;rw[aj (by rw[wK (by lia),aQ];simp;unfold zM;lia),aQ,rep1]
  rw[aU]
  congr 1
 obtain⟨l,B,e,c,y3,Y,y,rfl⟩:=wm (j:=⟨λA i=>(zK (.tup _) A).map λws=>ws[i]?,(ps.map zt).length⟩) (st:=turn (qa 3) aO) (I:=λi Z B=>B[1]? =some (.lst ((gj K S (ps.take i)).map W.int))/\∃y3 Y y,Z=fA t ps y3 Y y)
  (λi Z B hi ⟨c,y3,Y,y,H⟩=>by
   subst H;obtain⟨hm,n⟩:=h _ (aJ hi);have Q:=gH c;obtain⟨r,g,E,L,x⟩:=mG a f hm B;have l1:=x.len;obtain⟨ls,p,P,g1,g2,g3,X⟩:=mH MW MW rfl (by rw[Zs];exact a.n8) (mI n) L L
   rw[mE a f w]at g3;rw[Zs]at g2;have D:=g3 0 (by rw[Zs];exact n1)
   have b:=X.at (x.at c);have J:mQ ja (jc qo) (fA t ps (some (zt ps[i])) (rO g.length) y) p=.ok (.int (K:Int)) p:=by
    rw[jy (yq (zl rfl) (by unfold zK;dsimp only;rw[b]))]
    unfold ja;rw[ah,ah,aN]
   obtain⟨l,C,M,⟨d,_,_⟩,z,rfl⟩:=wm (j:=kZ 0 K) (st:=turn (qa 5) aI) (N:=K) (I:=λκ Z C=>(C[1]? =some (.lst ((ad K S (ps.take i) (pv K S ps[i] ps[i]) κ).map W.int))/\C[g.length]? =some _/\C[ls.getD 0 0]? =some _)/\∃z,Z=fA t ps _ _ z)
    (λκ Z C q ⟨⟨d,v,u⟩,z,H⟩=>by
     subst H;have e:=mS (ps:=ps) (y3:=some (zt ps[i])) a s f UH d v (by lia) u q
     refine⟨_,_,_,wR q,(kh (by rw[bI];rfl)).trans e,⟨aK (gH d),?_,?_⟩,_,rfl⟩
     ·rw[aH (by lia)];exact v
     ·rw[aH (by lia)];exact u)
    (λZ B _=>wN (by lia)) K 0 (fA t ps (some (zt ps[i])) (rO g.length) y) p (by lia) ⟨⟨by rw[mL];exact b,g1,D.2⟩,_,rfl⟩
   rw[mM]at d;refine⟨zt ps[i],fA t ps (some (zt ps[i])) (rO g.length) z,C,by show some (_[i]?)=_;rw[ar,aa hi];rfl,(kh rfl).trans ?_,⟨by rw[take_succ hi];exact d,_,_,_,rfl⟩⟩
   exact(zD ((ql ((zO (zu (zl rfl) (zu (zl rfl) zI))).trans E)).trans rfl)).trans ((zD ((ql ((zO (zu (zl rfl) (zu (zl rfl) zI))).trans P)).trans rfl)).trans ((zD ((yP (Zd J (wK (by lia)))).trans M)).trans qD)))
  (λZ B _=>by show some _[ps.length]? =_;rw[aw (by lia)]) ps.length 0 _ [.lst [.int 0],.lst _] (by lia) ⟨rfl,_,_,_,rfl⟩
 rw[bG]at c;refine V8 (by show((zC t).nr&&_)=true;rw[Qw];show(qW _&&true)=true;rw[Q9 (λ_=>Zk _)];rfl) (qe ?_) c (Q9 (λ_=>rfl) _)
 refine(zD (ql E)).trans ((zD (ρ1:=fA t ps y3 Y y) ((yP (wq (zl rfl))).trans ?_)).trans (zL (qb (zl rfl))));rw[o]at e ⊢;exact e
end
def BR (A:Hx)(w:W):Prop:=(∃s,w=.tup s/\s.length<=100/\∀x∈s,It x)∨∃ty,qZ w A=some ty/\ty≠.tup
def BR.mono {w:W}(k:Ky A B)(h:BR A w):BR B w:=by
 rcases h with h|⟨ty,h,hn⟩
 ·exact .inl h
 ·exact .inr ⟨ty,k _ _ h,hn⟩
def BR.ris {w:W}{lo hi:Int}(h:BR A w)(f:0<=lo)(c:hi<8):∃b a B,ZI [w,.int lo,.int hi] A=.ok (.bl b) A/\Qn [w,.int lo,.int hi] A=.ok (.bl a) B/\Ext A B/\(b=true->a=true):=by
 rcases h with ⟨s,rfl,H,d⟩|⟨ty,h,hn⟩
 ·obtain⟨a,B,e,x,q⟩:=ml H d f c A
  exact⟨_,a,B,rw_T H d A,e,x,q⟩
 ·exact⟨false,false,A,rw_N h hn,mj h hn,Ext.refl,λz=>z⟩
section
variable {C:Hx}{w:W}{m:Ev}{a:Ea}{k:Nat}
def EB (C:Hx)(m:Ev)(b:En):Prop:=∀A,Ext C A->∃w a,m b A=.ok w a/\Ext A a/\BR a w
def AB (C:Hx)(a:Ea)(c:En)(k:Nat):Prop:=∀A,Ext C A->∃s b,a c A=.ok s b/\Ext A b/\s.length=k/\∀w∈s,BR b w
def NB:AB C zq ρ 0:=λA _=>⟨[],A,rfl,Ext.refl,rfl,λ_ h=>by cases h⟩
def Zh (h:EB C m ρ)(t:AB C a ρ k):AB C (zi m a) ρ (k+1):=λA x=>by
 obtain⟨w,g,E,b,f⟩:=h A x;obtain⟨s,c,e,X,l,d⟩:=t g (x.trans b);refine⟨w::s,c,zu E e,b.trans X,by rw[a7,l],λy H=>?_⟩
 rcases cB.mp H with rfl|H
 ·exact f.mono X.ky
 ·exact d y H
def NH {ty:Ty}(h:∀A,m ρ A=.ok w A)(H:∀A,qZ w A=some ty)(n:ty≠.tup):EB C m ρ:=λA _=>⟨w,A,h A,Ext.refl,.inr ⟨ty,H A,n⟩⟩
def JT (h:TE m ρ ws)(l:ws.length<=100)(H:∀x∈ws,It x):EB C m ρ:=λA x=>⟨.tup ws,A,h A,Ext.refl,.inl ⟨ws,rfl,l,H⟩⟩
def mT:∀w∈([.int 0,.int (-1),.bl true,.non,.str "0",.tup [.int 0],.bl false,.int (10 ^ 29)]:List W),It w:=λw h=>by
 simp[bL,bx,or_false]at h;rcases h with rfl|rfl|rfl|rfl|rfl|rfl|rfl|rfl
 ·exact kX _
 ·exact kX _
 ·exact⟨⟨.bl,λ_=>rfl⟩,rfl,⟨_,λ_=>rfl⟩⟩
 ·exact⟨⟨.non,λ_=>rfl⟩,rfl,⟨_,λ_=>rfl⟩⟩
 ·exact⟨⟨.str,λ_=>rfl⟩,rfl,⟨.str "0",λ_=>by show(if PyData.strOk _=true then some _ else none)=_;rw[aj (by decide +kernel)]⟩⟩
 ·exact KS [0]
 ·exact⟨⟨.bl,λ_=>rfl⟩,rfl,⟨_,λ_=>rfl⟩⟩
 ·exact kX _
def Uq {i:Int}(h:m ρ A=.ok (.int i) A):jY m ρ A=.ok (some i) A:=by unfold jY;rw[h,zG]
def mU {far:Nat}(s:qz n A)(hr:r.length<=8)(hf:far<=8):∃w B,Yd [.ref n,.int (far:Int),zt r] A=.ok w B/\BR B w/\Kn n A B:=by
 have N:=QC (ρ:=[some (.ref n),some (.int (far:Int)),some (zt r),none,none,none]) (i:=2) (A:=A) rfl;rw[ah]at N;obtain⟨a,B1,e1,ha,k1,_⟩:=wM (me:=zr qw _ qU) s rfl ((zF N zQ).trans rfl) (by lia) (by lia)
 obtain⟨v,Y,e2,hv,k2,_⟩:=wM (ρ:=[some _,some (.int (far:Int)),some _,some _,none,none]) (me:=zr qw zU qU) k1.st rfl ((zF (zl rfl) zQ).trans rfl) (by lia) (by lia)
 have er:(zi zU (zi qA (zi (jN kE qU) (zi jm (zi J3 (zi (zE (.str "0")) (zi (qc (zi qA zq)) (zi T9 (zi (zr TZ Lo (zE (.int 29))) zq)))))))):Ea) [some (.ref n),some (.int (far:Int)),some (zt r),some (.int (a:Int)),none,none] Y=.ok [.int (far:Int),.int 0,.int (-1),.bl true,.non,.str "0",.tup [.int 0],.bl false,.int (10 ^ 29)] Y:=by kernel_rfl
 obtain⟨j,U,e3,hj,k3,_⟩:=wM (ρ:=[some _,some _,some _,some _,none,none]) (k2.st.ext (Ext.one)) rfl zQ (by decide:(0:Int)<10) (by decide)
 have hB2:=k2.st.lt;have f:j < [W.int (v:Int),.int (far:Int),.int 0,.int (-1),.bl true,.non,.str "0",.tup [.int 0],.bl false,.int (10 ^ 29)].length:=by show j<10;lia
 obtain⟨o,C,ev⟩:∃o,It o/\zr qm _ _ [some _,some _,some _,some _,none,none] B1=.ok o U:=by
  refine⟨_,?_,(zF (qO (zu e2 er)) e3).trans (jP (k3.kp.get z0 (by lia)) (aa f))⟩
  have hm:=aJ f;rcases cB.mp hm with h|hm
  ·rw[h];exact kX _
  ·rcases cB.mp hm with h|hm
   ·rw[h];exact kX _
   ·exact mT _ hm
 have K:=((k1.trans k2).trans (Kn.ext k2.st Ext.one)).trans k3;generalize H:([some _,some _,some _,some _,some o,none]:En)=ρ;have tt:TE qo ρ (r.map W.int):=λA=>by subst H;rfl
 have tl:(r.map W.int).length=r.length:=ah ..;have pi:∀x∈r.map W.int,It x:=λx c=>by obtain⟨v,_,rfl⟩:=cC.mp c;exact kX v
 have y:∀A,zA 3 ρ A=.ok _ A:=λA=>by subst H;rfl
 have v4:∀A,zA 4 ρ A=.ok o A:=λA=>by subst H;rfl
 have I:TE (j7 qo yo _) ρ (kM _ none (some (a:Int))):=Zm tt (λ_=>rfl) (λA=>Uq (y A));have Q:TE (j7 qo (jY (zr qw qH qU)) yo) ρ _:=Zm tt (λA=>Uq ((zF (y A) zQ).trans rfl)) (λ_=>rfl);have z1:=ZT (xs:=r.map W.int) (l:=none) (u:=some (a:Int));have z2:=ZT (xs:=r.map W.int) (l:=some (a:Int)) (u:=none);have z3:=ZT (xs:=r.map W.int) (l:=some ((a:Int)+1)) (u:=none);have z4:=ZT (xs:=r.map W.int) (l:=some (-1)) (u:=none);have two:∀{xs ys:List W},(∀x∈xs,It x)->(∀x∈ys,It x)->∀x∈xs++ys,It x:=λh1 h2 x c=>by
  rcases cH.mp c with c|c
  ·exact h1 x c
  ·exact h2 x c
 have one:∀x∈[o],It x:=λx c=>by rw[cG.mp c];exact C
 have sB:=K.st;obtain⟨ws,T,e4,L,l4,h4⟩:=Zh (m:=zr qw _ (j7 qo _ yo))
   (JT (kU (kU I (Qy v4) (by simp;lia)) (Zm tt (λA=>Uq (y A)) (λ_=>rfl)) (by rw[ai,aA];lia)) (by rw[ai,ai,aA];lia) (two (two (λx h=>pi x (gv h)) one) λx h=>pi x (gv h)))
  (Zh
   (JT (kU (kU I (Qy v4) (by simp;lia)) Q (by rw[ai,aA];lia)) (by rw[ai,ai,aA];lia) (two (two (λx h=>pi x (gv h)) one) λx h=>pi x (gv h)))
  (Zh
   (JT (kU I Q (by lia)) (by rw[ai];lia) (two (λx h=>pi x (gv h)) λx h=>pi x (gv h)))
  (Zh (λA _=>⟨_,_,j4 (yq (tt A) rfl),Ext.one,.inr ⟨.lst,K0,by decide⟩⟩) NB))) U Ext.refl
 have s4:=sB.ext L;have n4:=s4.lt;generalize b:ρ.set 5 (some (.ref T.length))=d;have t:TE qo d _:=λA=>by subst b H;rfl
 have E:TE (Y2 qo _) d (r.map W.int).reverse:=λA=>by
  unfold Y2;rw[t A,zG]
  have:jY (jN kE qU) d A=.ok _ A:=rfl
  rw[this,zG];dsimp only;rw[aj rfl]
 obtain⟨us,J,e6,p,Z,h6⟩:=Zh (JT E (by rw[List.length_reverse];lia) λx h=>pi x (List.mem_reverse.mp h))
  (Zh (m:=zr qw qo (j7 qo (jY (jN kE qU)) yo)) (JT (kU t (Zm t (λA=>rfl) (λ_=>rfl)) (by lia)) (by rw[ai];lia) (two pi λx h=>pi x (gv h)))
  (Zh (m:=zE .non) (NH (λ_=>rfl) (λ_=>rfl) (by decide))
  (Zh (m:=Wj) (λA _=>⟨.ref A.length,A++[.dct []],rfl,Ext.one,.inr ⟨.dct,by unfold qZ;dsimp only;rw[z0],by decide⟩⟩)
  (Zh (m:=zE (.int 0)) (NH (λ_=>rfl) (λ_=>rfl) (by decide))
  (Zh (JT (Qy t) (by simp) (λx c=>by rw[cG.mp c];exact KS r))
  (Zh (m:=qc zq) (JT (λA=>rfl) (by simp) (λx c=>by cases c)) NB)))))) (T++[.lst ws]) Ext.refl
 have P:=(zF (ma:=zA 5) (by subst b H;rfl) (qO e6)).trans (Yw (ji (p.at z0)) z0 (by unfold zM;lia))
 have g:Ext J (J++[O.lst us]++[O.lst (ws++us)]):=Ext.one.app;generalize D:J++[O.lst us]++[O.lst _]=B8 at P g;have S:=((s4.ext (Ext.one)).ext p).ext g;obtain⟨q,B9,e9,hq,z,_⟩:=wM (ρ:=d) S (by subst b H;rfl) zQ (by decide:(0:Int)<11) (by decide)
 have e:q<(ws++us).length:=by rw[ai,l4,Z];lia
 have X:=((Ext.one).trans p).trans g;refine⟨(ws++us)[q],B9,qe ?_,?_,(((K.trans (Kn.ext sB L)).trans (Kn.ext s4 X)).trans z)⟩
 ·refine(zD ((ql e1).trans rfl)).trans ((zD ((ql ev).trans (by subst H;rfl))).trans ((zD (ρ1:=d) ((ql (qO e4)).trans (by subst b;rfl))).trans (zL (qb ?_))))
  exact(zF P e9).trans (jP (z.kp.get (by rw[<- D];exact z0) (by rw[ai];have:=p.len;rw[ai]at this;lia)) (aa e))
 ·have M:=z.ky S
  rcases cH.mp (aJ e) with hm|hm
  ·exact((h4 _ hm).mono X.ky).mono M
  ·exact((h6 _ hm).mono g.ky).mono M
end
end G
namespace Mi
open PySem L2 G
def Tj (n:Nat)(w:W):Prop:=∃r:bZ,w=zt r/\r.length=n
theorem all_ints:∀{s:List W},s.all ka=true->∃r:bZ,s=r.map W.int
 |[],_=>⟨[],rfl⟩|w::s,h=>by
  rw[List.all_cons,ak]at h;obtain⟨r,rfl⟩:=all_ints h.2;cases w with|int i=>exact⟨i::r,rfl⟩|_=>cases h.1
def Om (r:bZ):(r.map W.int).all ka=true:=by rw[all_map];exact cF.mpr λ_ _=>rfl
def Ui (p:α->Bool)(l:List α):Wk (l.map λx=>W.bl (p x)) A=.ok (.bl (l.all p)) A:=by
 show gC _ _ A=_;unfold gC;rw[Ku];dsimp only;rw[all_map]
 rfl
def Di {j:jf}{st:W->Ex}{N:Nat}{I:Nat->En->Hx->Prop}{p:Nat->Prop}{J:Hx->Prop}{w:W}
  (s:∀i u A,i<N->I i u A->∃x,j.at_ A i=some (some x)/\((p i/\∃a b,st x u A=.ok (.nx a) b/\I (i+1) a b)∨(¬p i/\∃b,st x u A=.ok (.rt w) b/\J b)))
  (H:∀u A,I N u A->j.at_ A N=some none):
  ∀(f i:Nat)(u:En)(A:Hx),i+f=N->I i u A->((∀k,i<=k->k<N->p k)/\∃a b,j6 j st f i u A=.ok (.nx a) b/\I N a b)∨((∃k,i<=k/\k<N/\¬p k)/\∃b,j6 j st f i u A=.ok (.rt w) b/\J b):=by
 intro f
 induction f with
 |zero=>
  intro i u A h c
  have:i=N:=by lia
  subst this;exact .inl ⟨λk v y=>by lia,u,A,Gg (H _ _ c),c⟩
 |succ f n=>
  intro i u A h c;obtain⟨x,v,y⟩:=s i u A (by lia) c
  rcases y with ⟨d,a,b,e,g⟩|⟨d,b,e,o⟩
  ·rw[KA v e]
   rcases n (i+1) a b (by lia) g with ⟨q,r⟩|⟨⟨k,t,l,Q⟩,r⟩
   ·refine .inl ⟨λk B K=>?_,r⟩
    by_cases z:k=i
    ·rw[z];exact d
    ·exact q k (by lia) K
   ·exact .inr ⟨⟨k,by lia,l,Q⟩,r⟩
  ·exact .inr ⟨⟨i,ax _,by lia,d⟩,b,Ao v e,o⟩
def mV:W->Bool
 |.non=>true|.bl _=>true|.int _=>true|.str x=>PyData.strOk x|.tup w=>w.all ka|_=>false
def part_of {w:W}(h:mV w=true):It w:=by
 cases w with
 |non=>exact⟨⟨_,λ_=>rfl⟩,rfl,⟨_,λ_=>rfl⟩⟩|bl b=>exact⟨⟨_,λ_=>rfl⟩,rfl,⟨_,λ_=>rfl⟩⟩|int i=>exact kX i|str x=>exact⟨⟨_,λ_=>rfl⟩,rfl,⟨.str x,λA=>by show(if PyData.strOk x then some _ else none)=_;have h:PyData.strOk x=true:=h;rw[aj h]⟩⟩|tup s=>
  obtain⟨r,rfl⟩:=all_ints h;exact KS r
 |_=>cases h
inductive kY (n:Nat)(A:Hx)(x:W):Prop
 |flat (h:It x)
 |one (k:Nat) (e:x=.ref k) (h:A[k]? =some (.lst [.int 1])) (hn:k≠n)
inductive wX (n:Nat)(A:Hx)(w:W):Prop
 |tup (ws:List W) (e:w=.tup ws) (hl:ws.length<=100) (h:∀x∈ws,kY n A x)
 |oth (ty:Ty) (h:qZ w A=some ty) (hn:ty≠.tup)
section
variable {w x:W}
def kY.mono (k:Kn n A B)(h:kY n A x):kY n B x:=by
 cases h with|flat h=>exact .flat h|one j e h H=>exact .one j e (k.kp.get h H) H
theorem wX.mono (s:G.qz n A)(k:Kn n A B)(h:wX n A w):wX n B w:=by
 cases h with|tup a e l h=>exact .tup a e l λx H=>(h x H).mono k|oth ty h b=>exact .oth ty (k.ky s _ _ h) b
theorem kY.ty (h:kY n A x):∃ty,qZ x A=some ty:=by
 cases h with|flat h=>obtain⟨ty,h⟩:=h.ty;exact⟨ty,h A⟩|one k e h H=>subst e;exact⟨.lst,by unfold qZ;dsimp only;rw[h]⟩
def kY.dt (h:kY n A x):∃d,qk A 7 x=some d:=by
 cases h with
 |flat h=>obtain⟨d,h⟩:=h.dat;exact⟨d,h A⟩|one k e h H=>
  subst e;refine⟨.list [.int 1],?_⟩;show(match zK _ A with|some w=>(jM _ w).map PyData.list|none=>none)=_
  have:zK (.ref k) A=some [.int 1]:=by unfold zK;dsimp only;rw[h]
  rw[this]
  rfl
theorem Vz:∀{s:List W},(∀x∈s,kY n A x)->∃ds,jM (qk A 7) s=some ds/\ds.length=s.length
 |[],_=>⟨[],rfl,rfl⟩|w::s,h=>by
  obtain⟨d,a⟩:=(h w (au ..)).dt;obtain⟨ds,e,l⟩:=Vz λx H=>h x (ao _ H);refine⟨d::ds,?_,by simp[l]⟩
  show(match qk A 7 w,jM _ s with|some d,some ds=>some _|_,_=>none)=_
  rw[a,e]
def Az {r s:Nat}(h:A[r]? =some (.lst ws))(p:∀x∈ws,kY n A x)(b:A[s]? =some (.lst [])):kH (.ref r) (.ref s) A=.ok (.bl ws.isEmpty) A:=by
 obtain⟨ds,e,H⟩:=Vz p;have E:qk A 8 (.ref r)=some (.list ds):=by
  show(match zK _ A with|some ws=>(jM _ ws).map PyData.list|none=>none)=_
  have:zK (.ref r) A=some ws:=by unfold zK;dsimp only;rw[h]
  rw[this];dsimp only;rw[e]
  rfl
 show yU false _ _ A=_;unfold yU;rw[E,JJ (l:=[]) b];dsimp only;rw[PyData.eqv];cases ws with
 |nil=>
  cases ds with|nil=>simp[PyData.eqvAll]|cons _ _=>simp at H
 |cons a l=>
  cases ds with|nil=>simp at H|cons d ds=>simp[PyData.eqvAll]
def Oi {r s:Nat}(h:A[r]? =some (.lst ws))(p:∀x∈ws,kY n A x)(b:A[s]? =some (.lst [])):jB (.ref r) (.ref s) A=.ok (.bl (!ws.isEmpty)) A:=by
 obtain⟨ds,e,H⟩:=Vz p;have E:qk A 8 (.ref r)=some (.list ds):=by
  show(match zK _ A with|some ws=>(jM _ ws).map PyData.list|none=>none)=_
  have:zK (.ref r) A=some ws:=by unfold zK;dsimp only;rw[h]
  rw[this];dsimp only;rw[e]
  rfl
 show yU true _ _ A=_;unfold yU;rw[E,JJ (l:=[]) b];dsimp only;rw[PyData.eqv];cases ws with
 |nil=>
  cases ds with|nil=>simp[PyData.eqvAll]|cons _ _=>simp at H
 |cons a l=>
  cases ds with|nil=>simp at H|cons d ds=>simp[PyData.eqvAll]
end
end Mi
namespace G
open PySem L2 Mi
section
variable {K:Nat}{w:W}
def C7 (h:wX n A w)(K:Nat):∃b,Ym [w,.int K] A=.ok (.bl b) A/\(b=true↔Tj K w):=by
 cases h with
 |oth ty H f=>
  refine⟨false,qe (zL (qb (ZW ((gQ (zl rfl) H).trans (by rw[JO f]))))),λz=>(by cases z),?_⟩
  rintro⟨r,rfl,_⟩
  simp[zt,qZ]at H;exact absurd H.symm f
 |tup s e l p=>
  subst e;have E:=(zF (QC (ρ:=[some (.tup s),some (.int K)]) (i:=0) (A:=A) rfl) (zl (i:=1) rfl)).trans (Jq _ _ _);have a:wg .tup (zA 0) [some (.tup s),some (.int K)] A=.ok _ A:=rfl
  by_cases q:s.length=K
  ·have d:=JA (cap:=[]) (ρ:=[some (.tup s),some (.int K)]) (me:=zR Yp (zi (zA 0) zq)) (zl (i:=0) rfl) (by unfold zM;lia) (λw g=>by obtain⟨ty,H⟩:=(p w g).ty;exact(zO rfl).trans (Nf H))
   refine⟨s.all ka,qe (zL (qb ((wQ a).trans ((wQ (E.trans (by rw[aC (by lia)]))).trans ((jy d).trans (Ui ka s)))))),?_⟩
   constructor
   ·intro z
    obtain⟨r,rfl⟩:=all_ints z;rw[ah]at q;exact⟨r,rfl,q⟩
   ·rintro⟨r,e,_⟩
    injection e with e
    rw[e];exact Om r
  ·refine⟨false,qe (zL (qb ((wQ a).trans (ZW (E.trans (by rw[aF (by lia)])))))),λz=>(by cases z),?_⟩
   rintro⟨r,e,c⟩
   injection e with e
   rw[e,ah]at q;exact absurd c q
variable {C:Hx}
def Ae (h:r.length<=100):wX n A (zt r):=.tup _ rfl (by rw[ah];exact h) λx H=>by obtain⟨v,_,rfl⟩:=cC.mp H;exact .flat (kX v)
def EM (n:Nat)(C:Hx)(m:Ev)(b:En):Prop:=∀A,Ext C A->∃w a,m b A=.ok w a/\Ext A a/\wX n a w
def AM (n:Nat)(C:Hx)(a:Ea)(c:En)(k:Nat):Prop:=∀A,Ext C A->∃s b,a c A=.ok s b/\Ext A b/\s.length=k/\∀w∈s,wX n b w
def mW:AM n C zq ρ 0:=λA _=>⟨[],A,rfl,Ext.refl,rfl,λ_ h=>by cases h⟩
def Q7 {m:Ev}{a:Ea}{k:Nat}(s:qz n C)(h:EM n C m ρ)(t:AM n C a ρ k):AM n C (zi m a) ρ (k+1):=λA x=>by
 obtain⟨w,i,E,X,g⟩:=h A x;obtain⟨d,c,e,b,l,f⟩:=t i (x.trans X);have S:=(s.ext x).ext X;refine⟨w::d,c,zu E e,X.trans b,by rw[a7,l],λy H=>?_⟩
 rcases cB.mp H with rfl|H
 ·exact g.mono S (Kn.ext S b)
 ·exact f y H
def NO {m:Ev}{w:W}{ty:Ty}(h:∀A,m ρ A=.ok w A)(H:∀A,qZ w A=some ty)(a:ty≠.tup):EM n C m ρ:=λA _=>⟨w,A,h A,Ext.refl,.oth ty (H A) a⟩
def Xh {m:Ev}(h:TE m ρ ws)(l:ws.length<=100)(p:∀x∈ws,∀A,Ext C A->kY n A x):EM n C m ρ:=λA x=>⟨.tup ws,A,h A,Ext.refl,.tup ws rfl l λy H=>p y H A x⟩
def mX (s:qz n A)(h1:1<=r.length)(P:r.length<=8):∃w B,Rc [.ref n,zt r] A=.ok w B/\wX n B w/\Kn n A B:=by
 have D:=QC (ρ:=[some (.ref n),some (zt r),none,none,none]) (i:=1) (A:=A) rfl;rw[ah]at D;obtain⟨a,b,U,ha,k1,_⟩:=wM s rfl D (by lia) (by lia)
 have e:(zi (zE _) (zi (zE .non) (zi (zE _) (zi (qc (zi (zE _) zq)) (zi (qF (zi (zE _) zq)) (zi (zE _) zq))))):Ea) [some (.ref n),some (zt r),some (.int (a:Int)),none,none] b=.ok [.bl true,.non,.str "1",.tup [.int 1],.ref b.length,.bl false] (b++[.lst [.int 1]]):=rfl;have K:=Kn.ext k1.st (Ext.one (o:=.lst [.int 1]));have g:(b++[O.lst [.int 1]])[b.length]? =some _:=z0;have N:=k1.st.lt;have t:=K.st.lt;generalize b++[O.lst [.int 1]]=J at e K g t;have C:Ext J (J++[.lst [.bl true,.non,.str "1",.tup [.int 1],.ref b.length,.bl false]]):=Ext.one;obtain⟨j,p,E,hj,k3,_⟩:=wM (ρ:=[some _,some _,some _,none,none]) (K.st.ext C) rfl zQ (by decide:(0:Int)<6) (by decide)
 obtain⟨v,L,ev⟩:∃v,(∀A,Ext p A->kY n A v)/\zr qm _ _ [some _,some _,some _,none,none] b=.ok v p:=by
  have H:=k3.kp.get z0 (by lia)
  have y:j=0∨j=1∨j=2∨j=3∨j=4∨j=5:=by lia
  rcases y with rfl|rfl|rfl|rfl|rfl|rfl
  ·exact⟨_,λA _=>.flat (part_of rfl),(zF (qO e) E).trans (jP H rfl)⟩
  ·exact⟨_,λA _=>.flat (part_of rfl),(zF (qO e) E).trans (jP H rfl)⟩
  ·exact⟨.str "1",λA _=>.flat (part_of (by decide +kernel)),(zF (qO e) E).trans (jP H rfl)⟩
  ·exact⟨_,λA _=>.flat (part_of rfl),(zF (qO e) E).trans (jP H rfl)⟩
  ·exact⟨.ref b.length,λA x=>.one b.length rfl (x.at (k3.kp.get (ji g) (by lia))) (by lia),(zF (qO e) E).trans (jP H rfl)⟩
  ·exact⟨_,λA _=>.flat (part_of rfl),(zF (qO e) E).trans (jP H rfl)⟩
 have d:=((k1.trans K).trans (Kn.ext K.st C)).trans k3;have tt:TE (zA 1) [some (.ref n),some _,some (.int (a:Int)),some v,none] (r.map W.int):=λA=>rfl;have tl:(r.map W.int).length<=8:=by rw[ah];exact P
 have pi:∀x∈r.map W.int,∀A,Ext p A->kY n A x:=λx h A _=>by obtain⟨v,_,rfl⟩:=cC.mp h;exact .flat (kX v)
 have I:TE (j7 _ (jY (zE (.int 1))) yo) [some _,some _,some _,some v,none] _:=Zm tt (λ_=>rfl) (λ_=>rfl);have z1:=ZT (xs:=r.map W.int) (l:=none) (u:=some (a:Int));have z2:=ZT (xs:=r.map W.int) (l:=some ((a:Int)+1)) (u:=none);have Z:=ZT (xs:=r.map W.int) (l:=some 1) (u:=none);have sB:=d.st;obtain⟨ws,B4,T,z,l4,Q⟩:=Q7 (m:=zr qw (zr qw (j7 _ yo (jY (zA 2))) (qc (zi (zA 3) zq))) (j7 _ (jY (zr qw (zA 2) (zE (.int 1)))) yo)) sB
   (Xh (kU (kU (Zm tt (λ_=>rfl) (λ_=>rfl)) (Qy λA=>zl rfl) (by simp;lia)) (Zm tt (λ_=>rfl) (λ_=>rfl)) (by rw[ai,aA];lia)) (by rw[ai,ai,aA];lia) λx h A X=>by
    rcases cH.mp h with h|h
    ·rcases cH.mp h with h|h
     ·exact pi x (gv h) A X
     ·rw[cG.mp h];exact L A X
    ·exact pi x (gv h) A X)
  (Q7 (m:=zr qw _ (qc (zi (zE (.int 0)) zq))) sB (Xh (kU tt (Qy λA=>zQ) (by simp;lia)) (by rw[ai,aA];lia) λx h A X=>by
    rcases cH.mp h with h|h
    ·exact pi x h A X
    ·rw[cG.mp h];exact .flat (kX 0))
  (Q7 sB (Xh I (by lia) λx h A X=>pi x (gv h) A X)
  (Q7 sB (λA _=>⟨_,_,j4 (yq (tt A) rfl),Ext.one,.oth .lst K0 (by decide)⟩)
  (Q7 (m:=zE .non) sB (NO (λ_=>rfl) (λ_=>rfl) (by decide))
  (Q7 (m:=Wj) sB (λA _=>⟨.ref A.length,A++[.dct []],rfl,Ext.one,.oth .dct (by unfold qZ;dsimp only;rw[z0]) (by decide)⟩)
  (Q7 (m:=zE (.int 0)) sB (NO (λ_=>rfl) (λ_=>rfl) (by decide))
  (Q7 (m:=zr qw (qc (zi (zA 1) zq)) _) sB (Xh (kU (Qy λA=>zl rfl) I (by simp;lia)) (by rw[ai,aA];lia) λx h A X=>by
    rcases cH.mp h with h|h
    ·rw[cG.mp h];exact .flat (KS r)
    ·exact pi x (gv h) A X) mW))))))) p Ext.refl
 have s4:=sB.ext z;have M:=s4.lt;obtain⟨q,Y,S,hq,k5,_⟩:=wM (ρ:=[some _,some _,some _,some v,some _]) (s4.ext (Ext.one)) rfl zQ (by decide:(0:Int)<8) (by decide)
 have f:q<ws.length:=by lia
 have c:=(Kn.ext s4 (Ext.one)).trans k5;refine⟨ws[q],Y,qe ?_,(Q _ (aJ f)).mono s4 c,(d.trans (Kn.ext sB z)).trans c⟩;exact(zD ((ql U).trans rfl)).trans ((zD ((ql ev).trans rfl)).trans ((zD ((ql (qO T)).trans rfl)).trans (zL (qb ((zF (zl rfl) S).trans (jP (k5.kp.get z0 (by lia)) (aa f)))))))
end
section
variable {x y m:bZ}{ps:bY}{b c e k K r:Nat}{w:W}
inductive w8 (n:Nat)(A:Hx)(w:W):Prop
 |tup (ws:List W) (e:w=.tup ws) (hl:ws.length<=100) (h:∀x∈ws,wX n A x)
 |oth (ty:Ty) (h:qZ w A=some ty) (hn:ty≠.tup)
theorem w8.mono (s:qz n A)(k:Kn n A B)(h:w8 n A w):w8 n B w:=by
 cases h with|tup a e l h=>exact .tup a e l λx H=>(h x H).mono s k|oth ty h b=>exact .oth ty (k.ky s _ _ h) b
def mY (K:Nat)(w:W):Prop:=∃p,w=.tup (p.map zt)/\J8 K p
def TJ (K:Nat):W->Bool
 |.tup w=>decide (w.length=K)&&w.all ka|_=>false
def VR:TJ K w=true↔Tj K w:=by
 constructor
 ·intro h
  cases w with
  |tup s=>
   have h:(decide _&&s.all ka)=true:=h;rw[ak,ag]at h;obtain⟨r,rfl⟩:=all_ints h.2;exact⟨r,rfl,by rw[<- h.1,ah]⟩
  |_=>cases h
 ·rintro⟨r,rfl,H⟩
  show(decide _&&(r.map W.int).all ka)=true;rw[Om,ah,H];simp
def BC (h:wX n A w)(K:Nat):Ym [w,.int K] A=.ok (.bl (TJ K w)) A:=by
 obtain⟨b,e,H⟩:=C7 h K;rw[e]
 congr 2
 rw[Bool.eq_iff_iff,H,VR]
theorem all_rows:∀{s:List W},(∀x∈s,Tj K x)->∃ps:bY,s=ps.map zt/\∀m∈ps,m.length=K
 |[],_=>⟨[],rfl,λ_ h=>by cases h⟩|w::s,h=>by obtain⟨r,rfl,a⟩:=h w (au ..);obtain⟨ps,rfl,p⟩:=all_rows λx H=>h x (ao _ H);exact⟨r::ps,rfl,λm b=>(cB.mp b).elim (λz=>z ▸ a) (p m)⟩
def CA {j:jf}{r:bZ}{c:Option W}{G:Int->W}(a:∀i,i<r.length->j.at_ A i=some (some (.int (r.getD i 0))))(H:j.at_ A r.length=some none)(n:∀v,me [c,some (.int v)] A=.ok (G v) A):
  ∀(f i:Nat)(x:Option W)(d:List W),i+f=r.length->d.length+f<=zM->∃y,qT j (qa 1) (zE (.bl true)) (qi me) f i [c,x] d A=.ok ([c,y],d++(r.drop i).map G) A:=by
 intro f
 induction f with
 |zero=>
  intro i x d h l
  have:i=r.length:=by lia
  subst this;refine⟨x,?_⟩;unfold qT;rw[H,bH,map_nil,bq]
 |succ f I=>
  intro i x d h l;have g:i<r.length:=by lia
  have E:r.getD i 0=r[i]:=by rw[ae,aa g];rfl
  obtain⟨y,e⟩:=I (i+1) _ (d++[G r[i]]) (by lia) (by rw[ai,aA];lia)
  refine⟨y,?_⟩;rw[qT,a i g,E];dsimp only[qa,List.set,zE];rw[zG];have b:qi me [c,some (.int r[i])] d A=.ok ([c,some (.int r[i])],d++[G r[i]]) A:=by unfold qi;rw[n,zG,aj (by lia)]
  rw[b,zG];rw[e,aX,a9 g,a5,List.singleton_append]
def E4 {j:jf}{G:Int->W}(b:∀i,i<t.length->j.at_ A i=some (some (zt (t.getD i []))))(H:j.at_ A t.length=some none)(p:∀c v,me [c,some (.int v)] A=.ok (G v) A):
  ∀(f i:Nat)(x y:Option W)(n:List W),i+f=t.length->n.length+(t.drop i).flatten.length<=zM->
   ∃ρ,qT j (qa 0) (zE (.bl true)) (Z4 (qJ (zA 0)) (qa 1) (zE (.bl true)) (qi me)) f i [x,y] n A=.ok (ρ,n++(t.drop i).flatten.map G) A:=by
 intro f
 induction f with
 |zero=>
  intro i x y n h l
  have:i=t.length:=by lia
  subst this;unfold qT;rw[H,bH];simp
 |succ f I=>
  intro i x y n h l;have o:i<t.length:=by lia
  have r:t.getD i []=t[i]:=by rw[ae,aa o];rfl
  have e:=a9 o;rw[e,a3,ai]at l;have lt:(t[i].map W.int).length=t[i].length:=ah _;obtain⟨z,E⟩:=CA (j:=⟨λA i_1=>(zK (zt t[i]) A).map λw=>w[i_1]?,(t[i].map W.int).length⟩)
   (λk a=>by exact congrArg some (int_at a))
   (by show some _[t[i].length]? =_;rw[aw (by lia)])
   (p _) t[i].length 0 y n (by lia) (by lia)
  obtain⟨ρ,g⟩:=I (i+1) _ z (n++t[i].map G) (by lia) (by rw[ai,ah];lia)
  refine⟨ρ,?_⟩;rw[qT,b i o,r];dsimp only[qa,List.set,zE];rw[zG];have d:Z4 (qJ (zA 0)) (qa 1) (zE (.bl true)) (qi me) [some (zt t[i]),y] n A=.ok ([some (zt t[i]),z],n++t[i].map G) A:=by unfold Z4;rw[wq (zl rfl),zG];rw[lt]at E ⊢;exact E
  rw[d,zG];rw[g,e,a3,aS,aX]
def C3 {m:Ev}{G:Int->W}(h:m ρ A=.ok (zC t) A)(H:t.flatten.length<=zM)(d:∀c v,me [c,some (.int v)] A=.ok (G v) A):
  qC 2 [] (qJ m) (qa 0) jm (Z4 (qJ zH) (qa 1) jm (qi me)) ρ A=.ok (t.flatten.map G) A:=by
 have n:(t.map zt).length=t.length:=ah ..;obtain⟨a,e⟩:=E4 (j:=⟨λA i=>(zK (zC t) A).map λw=>w[i]?,(t.map zt).length⟩) (λi b=>by show some _[i]? =_;rw[JL b])
  (by show some _[t.length]? =_;rw[aw (by lia)]) d t.length 0 none none [] (by lia) (by simpa using H)
 unfold qC;rw[wq h,zG];show R.bind (R.nox (qT ⟨λA i=>(zK (zC t) A).map λw=>w[i]?,(t.map zt).length⟩ _ _ _ (t.map zt).length 0 [none,none] [] A)) _=_;rw[n]at e ⊢;rw[e]
 rfl
theorem Ml:∀{p:bY},(∀m∈p,m.length=K)->p.flatten.length=p.length * K
 |[],_=>by simp|m::p,h=>by rw[a3,ai,Ml λx H=>h x (ao _ H),h m (au ..),a7,Nat.succ_mul,add_comm]
def Uv {ty:Ty}(h:qZ w A=some ty)(H:ty≠.tup):w≠.tup ws:=by
 rintro rfl
 simp[qZ]at h;exact H h.symm
abbrev J6 (v:Int):Bool:=decide (-99<=v)&&decide (v<=99)
def mZ (o:zZ t)(q:qp t=(K:Int))(D:w8 n A w):∃b,SO [zC t,w] A=.ok (.bl b) A/\(b=true↔mY K w):=by
 have u:=wU o;cases D with
 |oth ty h I=>
  refine⟨false,qe (zL ((jV (YV (jh ((gQ (zl rfl) h).trans (by rw[JO I]))))).trans (zL (qb zQ)))),λz=>(by cases z),?_⟩
  rintro⟨P,e,_⟩
  exact absurd e (Uv h I)
 |tup C e y h=>
  subst e;have j:jF (wg .tup (zA 1)) [some (zC t),some (.tup C)] A=.ok _ A:=jh (k:=true) rfl;have E:jF (yG yK yK _ (mQ ja (jc (zA 1))) _) [some (zC t),some _] A=.ok (.bl (!(decide ((1:Int)<=C.length)&&decide ((C.length:Int)<=4)))) A:=jh (YI zQ (QC rfl) zQ)
  by_cases f:(decide ((1:Int)<=C.length)&&decide ((C.length:Int)<=4))=true
  ·rw[f]at E
   rw[ak,ag,ag]at f;have g:=(jy (JA (cap:=[0]) (ρ:=[some _,some _]) (m:=zA 1) (me:=zR Ym (zi (zA 0) (zi (zR Kh (zi (zA 1) zq)) zq))) (zl rfl) (by unfold zM;lia) (λw D=>(zO (zu (zl rfl) (zu ((zO (zu (zl rfl) zI)).trans ((GN o A).trans (by rw[q]))) zI))).trans (BC (h w D) K)))).trans (Ui _ C)
   by_cases B:C.all (TJ K)=true
   ·rw[B]at g
    obtain⟨P,rfl,s⟩:=all_rows λx d=>VR.mp (cF.mp B x d);have L:(P.map zt).length=P.length:=ah _;have r:=C3 (A:=A) (ρ:=[some (zC t),some _]) (m:=zA 1) (me:=yG yK yK (jN kE (zE (.int 99))) (zA 1) (zE (.int 99))) (zl rfl) (by
     rw[Ml s]
     have:P.length * K<=4 * 8:=mul_le_mul (by lia) (by lia)
     unfold zM;lia) (λc v=>YI ((UI zQ).trans rfl) (zl rfl) zQ)
    refine⟨P.flatten.all J6,qe ((zD ((q9 ((wV j).trans E)).trans qD)).trans ((zD ((q9 (jh g)).trans qD)).trans (zL (qb ((jy r).trans (Ui J6 _)))))),?_⟩
    constructor
    ·intro z
     refine⟨P,rfl,by lia,by lia,λm B=>⟨s m B,λv a=>?_⟩⟩
     have:=cF.mp z v (List.mem_flatten.mpr ⟨m,B,a⟩)
     rw[ak,ag,ag]at this;exact this
    ·rintro⟨p,e,H⟩
     injection e with e
     refine cF.mpr λv a=>?_;obtain⟨m,B,a⟩:=List.mem_flatten.mp a
     have:zt m∈p.map zt:=by rw[<- e];exact cC.mpr ⟨m,B,rfl⟩
     obtain⟨M,i,l⟩:=cC.mp this
     have:M=m:=by
      injection l with l
      exact(List.map_inj_right (λ_ _ z=>by injection z)).mp l
     subst this
     have:=(H.row _ i).2 v a
     rw[ak,ag,ag];exact this
   ·rw[Bool.not_eq_true]at B
    rw[B]at g;refine⟨false,qe ((zD ((q9 ((wV j).trans E)).trans qD)).trans (zL ((jV (jh g)).trans (zL (qb zQ))))),λz=>(by cases z),?_⟩
    rintro⟨P,e,H⟩
    injection e with e
    rw[<- Bool.not_eq_true]at B;refine absurd (cF.mpr λx d=>?_) B;rw[e]at d;obtain⟨m,B,rfl⟩:=cC.mp d;exact VR.mpr ⟨m,rfl,(H.row m B).1⟩
  ·have J:=Bool.eq_false_iff.mpr f
   rw[J]at E;refine⟨false,qe (zL ((jV ((wV j).trans E)).trans (zL (qb zQ)))),λz=>(by cases z),?_⟩
   rintro⟨P,e,H⟩
   injection e with e
   refine absurd ?_ f;rw[e,ah,ak,ag,ag]
   have:=H.l1
   have:=H.l4
   lia
end
def Vp {m:Ev}{ifs:Ev}{p:W->Bool}(h:m ρ A=.ok (.tup ws) A)(l:ws.length<=1000)(n:∀w∈ws,ifs (some w::cap.map λi=>(ρ[i]?).join) A=.ok (.bl (p w)) A):qC 1 cap (qJ m) (qa 0) ifs (qi (zA 0)) ρ A=.ok (ws.filter p) A:=by
 obtain⟨a,g,B,e,_,f,d⟩:=ZM (nl:=1) (ifs:=ifs) (tw:=qa 0) (em:=qi (zA 0))
  (I:=λi a g B=>(∃y,a=y::cap.map λi=>(ρ[i]?).join)/\B=A/\g=(ws.take i).filter p) (wq h) rfl
  (λi a g B H ⟨⟨y,c⟩,f,d⟩=>by
   subst c f d;have j:=aa H;have t:ws.take (i+1)=ws.take i++[ws[i]]:=by rw[List.take_add_one,j];rfl
   refine⟨ws[i],some ws[i]::cap.map λi=>(ρ[i]?).join,?_,rfl,?_⟩
   ·show _=some _
    show some (ws[i]?)=_;rw[j]
   ·have q:=n ws[i] (aJ H)
    cases b:p ws[i] with
    |true=>
     rw[b]at q;refine .inl ⟨B,_,_,B,q,Ze (zl rfl) ?_,⟨_,rfl⟩,rfl,?_⟩
     ·have:=bC p (ws.take i)
      rw[bc]at this;unfold zM;lia
     ·rw[t,filter_append,List.filter_cons_of_pos (by rw[b])]
      rfl
    |false=>
     rw[b]at q;refine .inr ⟨B,q,⟨_,rfl⟩,rfl,?_⟩;rw[t,filter_append,List.filter_cons_of_neg (by rw[b];simp)]
     simp)
  (λa g B _=>by show some (ws[ws.length]?)=_;rw[aw (ax _)]) ⟨⟨none,rfl⟩,rfl,rfl⟩
 subst f d;rw[bG]at e;exact e
section
variable {x ks m:bZ}{ps:bY}{a b e k K r p q:Nat}{S:Nat->List (bZ)}{w:W}
def WC (K:Nat)(w:W):Prop:=∃r,w=zt r/\r.length=K/\Sl r
abbrev Lz:Ex:=zS (kN (zE (.bl false))) qj
abbrev m3:Ev:=yb (qC 1 [] (qJ (zA 3)) (qa 0) (jF (zR Kj (zi (zA 0) zq))) (qi (zA 0)))
abbrev m5:Ev:=yb (qC 1 [] (qJ (zA 3)) (qa 0) (jF (yG yK yK (jN kE (zE (.int 99))) (zA 0) (zE (.int 99)))) (qi (zA 0)))
abbrev mC:Ex:=zS (jx (ZF (jF (wg .tup (zA 3))) (zr jB (mQ ja (jc (zA 3))) (zR kT (zi (zA 0) zq)))) Lz qj) (zS (jx (ZF (zr jB m3 (qF zq)) (zr jB m5 (qF zq))) Lz qj) qj)
abbrev eL (t:bY)(a Y b y:Option W):En:=[some (zC t),a,Y,b,y]
def N1 {r:bZ}:(r.map W.int).filter (λw=>!(match w with|.int v=>J6 v|_=>false))=[]↔Sl r:=by
 rw[List.filter_eq_nil_iff]
 constructor
 ·intro h v H
  have:=h _ (cC.mpr ⟨v,H,rfl⟩)
  have:J6 v=true:=by simpa using this
  rw[ak,ag,ag]at this;exact this
 ·intro h w a
  obtain⟨v,H,rfl⟩:=cC.mp a
  have:=h v H
  have:J6 v=true:=by rw[ak,ag,ag];exact this
  show ¬(!J6 v)=true;rw[this];simp
def m6 {a Y y:Option W}(s:qz n A)(M:zZ t)(P:qp t=(K:Int))(Z:wX n A w):
  (WC K w/\∃B,mC (eL t a Y (some w) y) A=.ok (.nx (eL t a Y (some w) y)) B/\Ext A B)∨(¬WC K w/\∃B,mC (eL t a Y (some w) y) A=.ok (.rt (.bl false)) B/\Ext A B):=by
 cases Z with
 |oth ty h T=>
  refine .inr ⟨?_,A,zL ((jV (YV (jh ((gQ (zl rfl) h).trans (by rw[JO T]))))).trans (zL (qb zQ))),Ext.refl⟩
  rintro⟨r,e,_⟩
  exact absurd e (Uv h T)
 |tup U e S D=>
  subst e;have I:jF (wg .tup (zA 3)) (eL t a Y (some (.tup U)) y) A=.ok _ A:=jh (k:=true) rfl;have C:=(zF (QC (ρ:=eL t a Y (some (.tup U)) y) (i:=3) rfl) ((zO (zu (zl (i:=0) rfl) zI)).trans (Yz M A))).trans (Sb _ _ _);rw[P]at C
  by_cases q:U.length=K
  ·have b:=(wV I).trans (C.trans (by rw[aC (show(U.length:Int)=K by lia)]<;>rfl))
   have u:=j4 (Vp (m:=zA 3) (cap:=[]) (ρ:=eL t a Y (some (.tup U)) y) (ifs:=jF (zR Kj (zi (zA 0) zq))) (zl rfl) (by lia) (λw h=>by obtain⟨ty,f⟩:=(D w h).ty;exact jh ((zO rfl).trans (ON f))))
   have x:Ext A (A++[.lst (U.filter λw=>!ka w)]++[.lst []]):=Ext.one.app;have E:=(zF u (qO zI)).trans (Oi (ji z0) (λw h=>(D w (List.mem_filter.mp h).1).mono (Kn.ext s x)) z0);generalize Q:A++[O.lst _]++[O.lst []]=A2 at E x;cases c:(U.filter λw=>!ka w).isEmpty with
   |false=>
    rw[c]at E;refine .inr ⟨?_,A2,(zD ((q9 b).trans qD)).trans (zL ((jV (YV E)).trans (zL (qb zQ)))),x⟩
    rintro⟨r,e,_,_⟩
    injection e with e
    have:(U.filter λw=>!ka w)=[]:=List.filter_eq_nil_iff.mpr λw h=>by rw[e]at h;obtain⟨v,_,rfl⟩:=cC.mp h;simp[ka]
    rw[this]at c;cases c
   |true=>
    rw[c]at E;have l:=cF.mpr λw h=>by simpa using (List.filter_eq_nil_iff.mp (List.isEmpty_iff.mp c) w h)
    obtain⟨r,rfl⟩:=all_ints l;have d:=j4 (Vp (m:=zA 3) (cap:=[]) (ρ:=eL t a Y (some (.tup (r.map W.int))) y) (A:=A2) (ifs:=jF (yG yK yK _ (zA 0) _)) (p:=λw=>!(match w with|.int v=>J6 v|_=>false)) (zl rfl) (by lia) (λw h=>by obtain⟨v,_,rfl⟩:=cC.mp h;exact jh (YI ((UI zQ).trans rfl) (zl rfl) zQ)))
    generalize j:(r.map W.int).filter _=L at d;have g:∀w∈L,kY n (A2++[.lst L]++[.lst []]) w:=λw h=>by rw[<- j]at h;obtain⟨v,_,rfl⟩:=cC.mp (List.mem_filter.mp h).1;exact .flat (kX v)
    have X:Ext A2 (A2++[.lst L]++[.lst []]):=Ext.one.app;have o:=(wV E).trans ((zF d (qO zI)).trans (Oi (ji z0) g z0));rw[ah]at q;cases H:L.isEmpty with
    |false=>
     rw[H]at o;refine .inr ⟨?_,_,(zD ((q9 b).trans qD)).trans (zL ((jV o).trans (zL (qb zQ)))),x.trans X⟩
     rintro⟨J,e,_,sl⟩
     injection e with e
     have:r=J:=(List.map_inj_right (λ_ _ z=>by injection z)).mp e
     subst this;rw[<- j,N1.mpr sl]at H;cases H
    |true=>
     rw[H]at o;exact .inl ⟨⟨r,rfl,q,N1.mp (by rw[j];exact List.isEmpty_iff.mp H)⟩,_,(zD ((q9 b).trans qD)).trans ((zD ((q9 o).trans qD)).trans qD),x.trans X⟩
  ·refine .inr ⟨?_,A,zL ((jV ((wV I).trans (C.trans (by rw[aF (show ¬(U.length:Int)=K by lia)];rfl)))).trans (zL (qb zQ))),Ext.refl⟩
   rintro⟨r,e,N,_⟩
   injection e with e
   rw[e,ah]at q;exact absurd N q
def Lc (K:Nat)(S:Nat->List (bZ))(s:bZ)(w:W):Prop:=∃p,w=.tup (p.map zt)/\J8 K p/\0<lst K S s p
theorem VW:∀{u v:bY},u.map zt=v.map zt->u=v
 |[],[],_=>rfl|a::u,b::v,h=>by
  injection h with H c
  injection H with H
  rw[(List.map_inj_right (λ_ _ z=>by injection z)).mp H,VW c]
theorem OF:∀{s:List W},(∀x∈s,WC K x)->∃ps:bY,s=ps.map zt/\∀m∈ps,m.length=K/\Sl m
 |[],_=>⟨[],rfl,λ_ h=>by cases h⟩|w::s,h=>by obtain⟨r,rfl,a⟩:=h w (au ..);obtain⟨ps,rfl,p⟩:=OF λx H=>h x (ao _ H);exact⟨r::ps,rfl,λm b=>(cB.mp b).elim (λz=>z ▸ a) (p m)⟩
def Nd (h:ks≠[]):0<lst K S ks ps↔∀k∈ks,pq K S ps k.toNat<0:=by
 rw[Bo (by intro z;exact h (List.map_eq_nil_iff.mp z))]
 constructor
 ·intro z k H
  have:=z _ (cC.mpr ⟨k,H,rfl⟩)
  lia
 ·intro z v a
  obtain⟨k,H,rfl⟩:=cC.mp a
  have:=z k H
  lia
def Ba (s:qz n A)(Q:zZ t)(st:ki t)(U:qp t=(K:Int))(hS:HS t K S)(f:Qi K ks)(hw:w8 n A w):∃b B,Yh [zC t,zt ks,w] A=.ok (.bl b) B/\Ext A B/\(b=true↔Lc K S ks w):=by
 cases hw with
 |oth ty h hn=>
  refine⟨false,A,qe (zL ((jV (YV (jh ((gQ (zl rfl) h).trans (by rw[JO hn]))))).trans (zL (qb zQ)))),Ext.refl,λz=>(by cases z),?_⟩
  rintro⟨ps,e,_⟩
  exact absurd e (Uv h hn)
 |tup ws e hl h=>
  subst e;have N:jF (wg .tup (zA 2)) [some (zC t),some (zt ks),some (.tup ws),none,none] A=.ok _ A:=jh (k:=true) rfl;have u:jF (yG yK yK _ (mQ ja (jc (zA 2))) _) [some (zC t),some (zt ks),some _,none,none] A=.ok (.bl (!(decide ((1:Int)<=ws.length)&&decide ((ws.length:Int)<=4)))) A:=jh (YI zQ (QC rfl) zQ);have C:zr kH (zA 1) _ [some (zC t),some _,some (.tup ws),none,none] A=.ok _ A:=(zF (zl rfl) (JC zI)).trans (eq_nil ks A)
  by_cases y:(decide ((1:Int)<=ws.length)&&decide ((ws.length:Int)<=4))=true
  ·rw[y]at u
   rw[ak,ag,ag]at y
   by_cases hn:ks=[]
   ·rw[aC hn]at C
    refine⟨false,A,qe (zL ((jV ((wV N).trans ((wV u).trans C))).trans (zL (qb zQ)))),Ext.refl,λz=>(by cases z),?_⟩
    rintro⟨ps,_,_,z⟩
    rw[hn]at z;exact absurd z (Int.lt_irrefl 0)
   ·rw[aF hn]at C
    have E:=(wV N).trans ((wV u).trans C);rcases Di (j:=⟨λA i=>(zK (.tup ws) A).map λws=>ws[i]?,ws.length⟩) (st:=turn (qa 3) mC) (I:=λi ρ B=>Ext A B/\∃y3,ρ=eL t _ _ y3 none) (p:=λi=>WC K (ws.getD i .non))
     (λi ρ B hi ⟨x,y3,H⟩=>by
      subst H;have hg:ws.getD i .non=ws[i]:=by rw[ae,aa hi];rfl
      refine⟨ws[i],by show some (ws[i]?)=_;rw[aa hi],?_⟩
      rw[hg];rcases m6 (s.ext x) Q U ((h _ (aJ hi)).mono s (Kn.ext s x)) with ⟨h1,P,e,X⟩|⟨h1,P,e,X⟩
      ·exact .inl ⟨h1,_,P,(kh rfl).trans e,x.trans X,_,rfl⟩
      ·exact .inr ⟨h1,P,(kh rfl).trans e,x.trans X⟩)
     (λρ B _=>by show some (ws[ws.length]?)=_;rw[aw (ax _)]) ws.length 0 (eL t (some (zt ks)) (some (.tup ws)) none none) A (by lia) ⟨Ext.refl,_,rfl⟩ with ⟨q,ρ',B,M,x,y3,H⟩|⟨⟨i,_,hi,D⟩,B,M,x⟩
    ·subst H
     have a:∀w∈ws,WC K w:=λw hw=>by
      obtain⟨i,hi,rfl⟩:=bf hw
      have:=q i (bR _) hi
      rw[ae,aa hi]at this;exact this
     obtain⟨ps,rfl,c⟩:=OF a;have lp:(ps.map zt).length=ps.length:=ah _;have Z:=Ng Q st U hS c (by lia) B
     have pl:(gj K S ps).length=K:=by rw[ah,aN]
     generalize r:B++[O.lst _]=B2 at Z;have h2:B2[B.length]? =some (.lst ((gj K S ps).map W.int)):=by rw[<- r];exact z0
     have Y:=j4 (Vp (m:=zA 1) (cap:=[4]) (ρ:=eL t (some (zt ks)) (some (.tup (ps.map zt))) y3 _) (ifs:=zr XO (zr qm (zA 1) (zA 0)) (zE (.int 0))) (p:=λw=>match w with|.int k=>decide (0<=pq K S ps k.toNat)|_=>false) (zl rfl) (by have:=f.len;rw[ah];lia) (λw hw=>by
      obtain⟨k,g,rfl⟩:=cC.mp hw;have hkb:=f.lo k g;obtain⟨j,rfl⟩:=aY (show 0<=k by lia)
      refine(zF ((zF (zl rfl) (zl rfl)).trans (jP h2 (int_at (by lia)))) zQ).trans ?_
      rw[KZ (by lia)]
      rfl))
     generalize T:(ks.map W.int).filter _=L at Y;have J:∀w∈L,kY n (B2++[.lst L]++[.lst []]) w:=λw h=>by rw[<- T]at h;obtain⟨v,_,rfl⟩:=cC.mp (List.mem_filter.mp h).1;exact .flat (kX v)
     refine⟨L.isEmpty,_,qe ((zD ((q9 E).trans qD)).trans ((zD ((yP (wq (zl rfl))).trans M)).trans ((zD ((ql ((zO (zu (zl rfl) (zu (zl rfl) zI))).trans Z)).trans rfl)).trans (zL (qb ((zF Y (qO zI)).trans (Az (ji z0) J z0))))))),(x.trans (by rw[<- r];exact Ext.one)).trans Ext.one.app,?_⟩
     have o:L.isEmpty=true↔∀k∈ks,pq K S ps k.toNat<0:=by
      rw[List.isEmpty_iff,<- T,List.filter_eq_nil_iff]
      constructor
      ·intro z k g
       have:=z _ (cC.mpr ⟨k,g,rfl⟩)
       rw[ag]at this;lia
      ·intro z w hw
       obtain⟨k,g,rfl⟩:=cC.mp hw
       have:=z k g
       rw[ag];lia
     rw[o]
     constructor
     ·intro z
      exact⟨ps,rfl,⟨by lia,by lia,c⟩,(Nd hn).mpr z⟩
     ·rintro⟨ps',e,d,z⟩
      injection e with e
      rw[<- VW e]at z;exact(Nd hn).mp z
    ·refine⟨false,B,qe ((zD ((q9 E).trans qD)).trans (zL ((yP (wq (zl rfl))).trans M))),x,λz=>(by cases z),?_⟩
     rintro⟨ps,e,d,_⟩
     injection e with e
     subst e;refine absurd ?_ D;have l:=by rw[ah]at hi;exact hi
     rw[ae,ar,aa l];exact⟨ps[i],rfl,d.row _ (aJ l)⟩
  ·have hf:=Bool.eq_false_iff.mpr y
   rw[hf]at u;refine⟨false,A,qe (zL ((jV ((wV N).trans (YV u))).trans (zL (qb zQ)))),Ext.refl,λz=>(by cases z),?_⟩
   rintro⟨ps,e,d,_⟩
   injection e with e
   refine absurd ?_ y;rw[e,ah,ak,ag,ag]
   have:=d.l1
   have:=d.l4
   lia
def CV (a:zZ t)(r:ki t)(f:qp t=(K:Int))(d:HS t K S)(H:Qi K ks)(p:J8 K ps)(l:0<lst K S ks ps)(A:Hx):Ki [zC t,zt ks,.tup (ps.map zt)] A=.ok (.int (1+pq K S ps 0/lst K S ks ps)) A:=by
 have o:=wU a;have L:=p.l4;have b:ks≠[]:=by rintro rfl;exact absurd l (Int.lt_irrefl 0)
 have h:(ks.map λk=>-(pq K S ps k.toNat))≠[]:=by intro z;exact b (List.map_eq_nil_iff.mp z)
 have g:lst K S ks ps<=20072448:=by
  obtain⟨k,_,e⟩:=cC.mp (minD_mem h)
  have:=(p.bd a f d) k.toNat
  show minD 0 _<=_;lia
 refine Zn (A1:=[.lst ((gj K S ps).map W.int)]) ?_ rfl (qe ?_)
 ·show((zC t).nr&&((zt ks).nr&&_))=true
  rw[Qw,Zk];show(qW _&&true)=true;rw[Q9 (λ_=>Zk _)]
  rfl
 have P:(gj K S ps).length=K:=by rw[ah,aN]
 have q:([O.lst _]:Hx)[0]? =some (.lst ((gj K S ps).map W.int)):=rfl;have E:=VB (cap:=[3]) (ρ:=[some (zC t),some (zt ks),some (.tup (ps.map zt)),rO 0]) (G:=λk=>.int (-(pq K S ps k.toNat))) (m:=zA 1) (me:=zr QM (zE (.int 0)) (zr qm zU zH)) (zl rfl) (by have:=H.len;unfold zM;lia) (λk n=>by
  have i:=H.lo k n;obtain⟨j,rfl⟩:=aY (show 0<=k by lia)
  refine(zF zQ ((zF (zl rfl) (zl rfl)).trans (jP q (int_at (by lia))))).trans ?_
  rw[KZ (by lia)]
  show R.ok (W.int _) _=_;rw[Int.zero_sub]
  rfl)
 have c:(ks.map λk=>W.int (-(pq K S ps k.toNat)))=(ks.map λk=>-(pq K S ps k.toNat)).map W.int:=by rw[aU];rfl
 rw[c]at E;refine(zD ((ql ((zO (zu (zl rfl) (zu (zl rfl) zI))).trans (Ng a r f d p.row (by lia) []))).trans rfl)).trans (zL (qb ?_))
 exact(zF zQ ((zF ((zF (zl rfl) zQ).trans ((jP (s:=0) q (int_at (by lia))).trans (by rw[KZ (by lia)]))) ((jy E).trans (Bk h))).trans (Xc l (by show lst K S ks ps<_;lia)))).trans rfl
variable {C:Hx}{v z:W}{X:Str}
def m7 {m:Ev}{a M:Ex}(h:m ρ A=.exc X B):jx m a M ρ A=.exc X B:=by unfold jx;rw[h,GC]
def Bb {m:Ev}(h:m ρ A=.exc X B):jF m ρ A=.exc X B:=by unfold jF;rw[h,GC]
def Ax:(J5 K S ks ps).isSome=true↔0<lst K S ks ps:=by
 unfold J5
 by_cases h:lst K S ks ps<=0
 ·rw[aj h]
  constructor
  ·intro z;cases z
  ·intro z;lia
 ·rw[av h]
  exact⟨λ_=>by lia,λ_=>rfl⟩
def V0 (h:zZ t)(o:ki t)(a:qp t=(K:Int))(d:HS t K S)(H:Qi K ks)(q:w8 n A w):∃b B,wk [zC t,zt ks,w] A=.ok (.bl b) B/\Ext A B/\(b=true↔Lc K S ks w):=by
 obtain⟨b,j,c⟩:=mZ h a q;have g:=Z2 ((zO (zu (zl (ρ:=[some _,some (zt ks),some w]) (i:=0) rfl) zI)).trans (Ny h o A));have f:=Z2 ((zO (zu (zl (ρ:=[some _,some _,some w]) (i:=0) rfl) (zu (zl (i:=1) rfl) zI))).trans (mu h a H A));have E:=(zO (zu (zl (ρ:=[some _,some (zt ks),some w]) (i:=0) rfl) (zu (zl (i:=2) rfl) zI))).trans j;cases b with
 |false=>
  exact⟨false,A,Uc ((zD g).trans ((zD f).trans (Zq (zL (qb (ZW E)))))),Ext.refl,λz=>(by cases z),λ⟨l,e,p,_⟩=>c.mpr ⟨l,e,p⟩⟩
 |true=>
  obtain⟨l,rfl,p⟩:=c.mp rfl;obtain⟨B,s,x⟩:=O4 h a d H p z0;refine⟨_,B,Uc ((zD g).trans ((zD f).trans (Zq (zL (qb ((wQ E).trans ((zF ((zO (zu ((zO (zu (zl rfl) zI)).trans (Oa h a d A)) (zu (zl rfl) (zu (zl rfl) zI)))).trans s) zQ).trans (show _=R.ok (W.bl (J5 K S ks l).isSome) B by cases J5 K S ks l<;>rfl)))))))),Ext.one.trans x,?_⟩
  rw[Ax]
  constructor
  ·intro z
   exact⟨l,rfl,p,z⟩
  ·rintro⟨P,e,_,z⟩
   injection e with e
   rw[VW e];exact z
def m9 (h:gk A w):wk [w,v,z] A=.exc "NoTable" A:=by refine Qr ?_;exact gq (GJ ((zO (zu (zl rfl) zI)).trans (lX h)))
def nc (h:XZ t):wk [zC t,v,z] A=.exc "NotSteady" A:=by refine Qr ?_;exact gq (GJ ((zO (zu (zl rfl) zI)).trans (lY h A)))
def O0 (H:zZ t)(s:ki t)(a:qp t=(K:Int))(h:ZI [v,.int 1,.int ((K:Int)-1)] A=.ok (.bl false) A):wk [zC t,v,z] A=.exc "NoKinds" A:=by refine Qr ?_;exact(zD (Z2 ((zO (zu (zl rfl) zI)).trans (Ny H s A)))).trans (gq (GJ ((zO (zu (zl rfl) (zu (zl rfl) zI))).trans (mx H a h))))
def PN (h:wk [w,v,z] A=.exc X B):Zf [w,v,z] A=.exc X B:=by refine Qr ?_;exact gq (m7 (Bb ((zO (zu (zl rfl) (zu (zl rfl) (zu (zl rfl) zI)))).trans h)))
def nh (h:wk [w,v,z] A=.ok (.bl false) B):Zf [w,v,z] A=.exc "NoPaper" B:=by refine Qr ?_;exact gq ((jV (jh ((zO (zu (zl rfl) (zu (zl rfl) (zu (zl rfl) zI)))).trans h))).trans (gq rfl))
def ni (H:zZ t)(f:ki t)(c:qp t=(K:Int))(a:HS t K S)(h:Qi K ks)(p:J8 K ps)(l:0<lst K S ks ps)(w:w8 n A (.tup (ps.map zt))):∃B,Zf [zC t,zt ks,.tup (ps.map zt)] A=.ok (.int (pq K S ps 0/lst K S ks ps+1)) B/\Ext A B:=by
 obtain⟨b,B,e,x,d⟩:=V0 H f c a h w
 have:b=true:=d.mpr ⟨ps,rfl,p,l⟩
 subst this;obtain⟨C,E,X⟩:=O4 H c a h p z0;have s:J5 K S ks ps=some (pq K S ps 0/lst K S ks ps+1):=by unfold J5;rw[av (by lia)]
 rw[s]at E;refine⟨C,Uc ?_,(x.trans Ext.one).trans X⟩;exact(zD ((q9 (jh ((zO (zu (zl rfl) (zu (zl rfl) (zu (zl rfl) zI)))).trans e))).trans qD)).trans (Zq (zL (qb ((zO (zu ((zO (zu (zl rfl) zI)).trans (Oa H c a B)) (zu (zl rfl) (zu (zl rfl) zI)))).trans E))))
end
section
variable {ks:bZ}{k K:Nat}{C:Hx}{z:W}
def nj (s:qz n A)(g:zZ t)(o:qp t=(K:Int)):∃ks B,Yl [.ref n,zC t] A=.ok (zt ks) B/\Qi K ks/\Kn n A B:=by
 have r:=wU g;have J:K6 (zE (.int 1)) (zR kT (zi (zA 1) zq)) [some (.ref n),some (zC t)] A=.ok (kZ 1 (K-1)) A:=by
  unfold K6;rw[zQ,zG,(zO (zu (zl rfl) zI)).trans ((Yz g A).trans (by rw[o])),zG]
  dsimp only;have w:jA (K:Int)=true:=wK (by lia)
  rw[w,show(((K:Int)-1).toNat)=K-1 by lia]
  rfl
 obtain⟨j,v,B,e,_,⟨ks,H,w,x,p⟩,kn⟩:=ZM (nl:=1) (cap:=[0]) (tw:=qa 0) (em:=qi (zA 0)) (N:=K-1)
  (I:=λi D v C=>(∃y,D=[y,some _])/\(∃ks:bZ,v=ks.map W.int/\(∀k∈ks,1<=k/\k<1+(i:Int))/\ks.Pairwise (· < ·)/\ks.length<=i)/\Kn n A C) J rfl
  (λi D v C L ⟨⟨y,d⟩,⟨ks,H,w,x,p⟩,kn⟩=>by
   subst d H;obtain⟨q,c,e,u,f,_⟩:=UE kn.st (m:=2) (by decide) (by decide)
   have E:zr kH (zR kf (zi (zA 1) _)) _ [some (.int (1+(i:Int))),some _] C=.ok (.bl (decide ((q:Int)=1))) c:=(zF ((zO (zu (zl rfl) (zu zQ zI))).trans e) zQ).trans (Jq _ _ _);refine⟨_,[some _,some _],wR L,rfl,?_⟩
   by_cases z:(q:Int)=1
   ·rw[aC z]at E
    refine .inl ⟨c,_,_,c,E,Ze (zl rfl) (by rw[ah];unfold zM;lia),⟨_,rfl⟩,⟨ks++[1+_],by rw[aS];rfl,λk h=>?_,?_,by rw[ai,aA];lia⟩,kn.trans f⟩
    ·rcases cH.mp h with h|h
     ·have:=w k h;lia
     ·rw[cG.mp h];lia
    ·rw[List.pairwise_append]
     refine⟨x,List.pairwise_singleton _ _,λa H b l=>?_⟩;rw[cG.mp l]
     have:=w a H
     lia
   ·rw[aF z]at E
    exact .inr ⟨c,E,⟨_,rfl⟩,⟨ks,rfl,λk h=>by have:=w k h;lia,x,by lia⟩,kn.trans f⟩)
  (λD v C _=>wN (by lia)) ⟨⟨none,rfl⟩,⟨[],rfl,λk h=>by(cases h),.nil,by simp⟩,⟨Kp.refl,s⟩⟩
 subst H;refine⟨ks,B,qe ?_,⟨λk h=>by have:=w k h;lia,x,by lia⟩,kn⟩
 exact zL (qb (Z1 e))
variable {m:bZ}{a e r p q:Nat}{w v:W}
abbrev sT:Ex:=zS (Jt (Zt Qv (zA 3) (zr jE (zR kf (zi (zA 0) (zi (zr qw (zA 2) (zE (.int 1))) zq))) (zr qm (qF (zi (zE (.int 0)) (zi (jN kE (zE (.int 1))) (zi (jN kE (zE (.int 1))) (zi (zE (.int 1)) zq))))) (zR kf (zi (zA 0) (zi (zE (.int 4)) zq))))))) qj
def nk {j:Int}{r:bZ}{Y y:Option W}(s:qz n C)(z:1<=j)(x:j<=99)(b:C[p]? =some (.lst (r.map W.int)))(h:p≠n)(l:r.length<=8):∃v B,sT [rO n,Y,some (.int j),rO p,y] C=.ok (.nx [rO n,Y,some (.int j),rO p,y]) (B.set p (.lst ((r++[v]).map W.int)))/\-99<=v/\v<=99/\Kn n C B:=by
 obtain⟨q,i,E,f,o,_⟩:=wM (ρ:=[rO n,Y,some (.int j),rO p,y]) (me:=zr qw (zA 2) (zE (.int 1))) s rfl ((zF (zl rfl) zQ).trans rfl) (by lia) (by lia)
 obtain⟨w,d,e,t,u⟩:=G2 (ρ:=[rO n,Y,some _,rO p,y]) (a:=zi (zE (.int 0)) (zi (jN kE (zE (.int 1))) (zi (jN kE (zE (.int 1))) (zi (zE (.int 1)) zq)))) o.st rfl rfl rfl (by decide) (by decide)
 obtain⟨g,rfl,c⟩:∃g:Int,w=.int g/\(g=0∨g=-1∨g=1):=by
  simp only[bL,bx,or_false]at t;rcases t with rfl|rfl|rfl|rfl
  ·exact⟨_,rfl,.inl rfl⟩
  ·exact⟨_,rfl,.inr (.inl rfl)⟩
  ·exact⟨_,rfl,.inr (.inl rfl)⟩
  ·exact⟨_,rfl,.inr (.inr rfl)⟩
 have K:=o.trans u;have H:-99<=(q:Int) * g/\(q:Int) * g<=99:=by
  rcases c with rfl|rfl|rfl
  ·rw[mul_zero];lia
  ·rw[Int.mul_neg,mul_one];lia
  ·rw[mul_one];lia
 refine⟨_ * g,d,?_,H.1,H.2,K⟩;refine(zD (Z2 ((YC (zl rfl) b ((zF E e).trans (YN (by lia) (by lia)))).trans (Gf (K.kp.get b h) (by rw[ah];lia))))).trans (qD.trans ?_)
 rw[aS]
 rfl
def nq (s:qz n A)(h1:1<=K)(S:K<=8):∃m B,Jw [.ref n,.int K] A=.ok (zt m) B/\m.length=K/\Sl m/\Kn n A B:=by
 obtain⟨w,T,P,hw,Z⟩:=G2 (ρ:=[rO n,some _,none,none,none]) (a:=zi (zE (.int 2)) (zi (zE (.int 3)) (zi (zE (.int 9)) (zi (zE (.int 99)) zq)))) s rfl rfl rfl (by decide) (by decide)
 obtain⟨U,rfl,f1,f2⟩:∃U:Int,w=.int U/\2<=U/\U<=99:=by simp[bL,bx,or_false]at hw;rcases hw with rfl|rfl|rfl|rfl<;>exact⟨_,rfl,by decide,by decide⟩
 obtain⟨q,d,M,Q,k2,E⟩:=wM (ρ:=[rO n,some _,some (.int U),none,none]) (me:=zE (.int 2)) Z.st rfl zQ (by lia) (by lia)
 have L:=qO (zu ((zF (g:=QM) (zl (i:=2) rfl) M).trans rfl) zI);have b:=Z.trans k2;have r:(d++[O.lst [.int _]])[d.length]? =some (.lst ([U-(q:Int)].map W.int)):=z0;have X:Ext d (d++[O.lst [.int (U-(q:Int))]]):=Ext.one;have o:=b.kp.len;have c:d.length≠n:=by have:=s.lt;lia
 generalize d.length=p at*;generalize d++[O.lst [.int _]]=x at*;have hm:K6 (zE (.int 1)) (zA 1) [rO n,some (.int (K:Int)),some (.int U),rO p,none] x=.ok (kZ 1 (K-1)) x:=by
  unfold K6;rw[zQ,zG,zl rfl,zG];dsimp only;rw[(wK (by lia)),show(((K:Int)-1).toNat)=K-1 by lia]
  rfl
 obtain⟨D,C,J,⟨m,l,z,t,f⟩,y,h⟩:=wm (j:=kZ 1 (K-1)) (st:=turn (qa 4) sT) (N:=K-1) (I:=λi Y C=>(∃m:bZ,C[p]? =some (.lst (m.map W.int))/\m.length=i+1/\Sl m/\Kn n A C)/\∃y,Y=[rO n,some _,some _,rO p,y])
  (λi Y C hi ⟨⟨m,l,z,t,f⟩,y,h⟩=>by
   subst h;obtain⟨v,B,e,v1,v2,k⟩:=nk f.st (by lia) f2 l c (by lia)
   refine⟨_,_,_,wR hi,(kh rfl).trans e,⟨m++[v],aK (gH (k.kp.get l c)),by rw[ai,z];rfl,λu H=>?_,⟨(f.trans k).kp.put o,k.st.put c⟩⟩,_,rfl⟩
   rcases cH.mp H with H|H
   ·exact t u H
   ·rw[cG.mp H];exact⟨v1,v2⟩)
  (λY C _=>wN (by lia)) (K-1) 0 [rO n,some (.int (K:Int)),some (.int U),rO p,none] x (by lia) ⟨⟨_,r,rfl,λu H=>by rw[cG.mp H];lia,(b.trans (Kn.ext b.st X))⟩,_,rfl⟩
 subst h;refine⟨m,C,qe ?_,by lia,t,f⟩
 refine(zD ((ql P).trans rfl)).trans ((zD ((ql L).trans rfl)).trans ((zD ((yP hm).trans J)).trans (zL (qb (Z1 (yq (zl rfl) (by unfold zK;dsimp only;rw[l])))))))
end
section
variable {x y:bZ}{ps:bY}{b c e K r q k:Nat}{C:Hx}{w v:W}{xs:List W}{m:Ev}{a:Ea}
def O7:kM ws none (some 1)=ws.take 1:=by
 unfold kM;have h:HT.qI ws.length 0 none=0:=rfl;rw[h,show(1:Int)=((1:Nat):Int) from rfl,HT.zbv,List.drop_zero,Nat.sub_zero]
 by_cases q:1<=ws.length
 ·rw[Nat.min_eq_left q]
 ·have:ws=[]:=List.length_eq_zero_iff.mp (by lia)
  subst this
  rfl
def EP (n:Nat)(C:Hx)(m:Ev)(b:En):Prop:=∀A,Ext C A->∃w a,m b A=.ok w a/\Ext A a/\w8 n a w
def AP (n:Nat)(C:Hx)(a:Ea)(c:En)(k:Nat):Prop:=∀A,Ext C A->∃s b,a c A=.ok s b/\Ext A b/\s.length=k/\∀w∈s,w8 n b w
def NQ:AP n C zq ρ 0:=λA _=>⟨[],A,rfl,Ext.refl,rfl,λ_ h=>by cases h⟩
def gJ (s:qz n C)(h:EP n C m ρ)(t:AP n C a ρ k):AP n C (zi m a) ρ (k+1):=λA x=>by
 obtain⟨w,i,E,X,g⟩:=h A x;obtain⟨d,c,e,b,l,f⟩:=t i (x.trans X);have S:=(s.ext x).ext X;refine⟨w::d,c,zu E e,X.trans b,by rw[a7,l],λy H=>?_⟩
 rcases cB.mp H with rfl|H
 ·exact g.mono S (Kn.ext S b)
 ·exact f y H
def Ma {ty:Ty}(h:∀A,m ρ A=.ok w A)(H:∀A,qZ w A=some ty)(a:ty≠.tup):EP n C m ρ:=λA _=>⟨w,A,h A,Ext.refl,.oth ty (H A) a⟩
def MX (n:Nat)(C:Hx)(w:List W):Prop:=∀x∈w,∀A,Ext C A->wX n A x
def Jg (h:TE m ρ ws)(l:ws.length<=100)(p:MX n C ws):EP n C m ρ:=λA x=>⟨.tup ws,A,h A,Ext.refl,.tup ws rfl l λy H=>p y H A x⟩
def MX.app (h:MX n C ws)(a:MX n C xs):MX n C (ws++xs):=λx H=>(cH.mp H).elim (h x) (a x)
def MX.cut {l u:cm}(h:MX n C ws):MX n C (kM ws l u):=λx H=>h x (gv H)
def MX.one (h:∀A,Ext C A->wX n A w):MX n C [w]:=λx H=>by rw[cG.mp H];exact h
def nt {r:bZ}:MX n C (r.map W.int):=λx h A _=>by obtain⟨v,_,rfl⟩:=cC.mp h;exact .oth .int rfl (by decide)
def OQ (h:∀m∈ps,m.length<=8):MX n C (ps.map zt):=λx H A _=>by
 obtain⟨m,a,rfl⟩:=cC.mp H
 have:=h m a
 exact Ae (by lia)
def PQ (h:∀m∈ps,m.length<=8)(l:ps.length<=100):w8 n A (.tup (ps.map zt)):=.tup _ rfl (by rw[ah];exact l) λx H=>OQ h x H A Ext.refl
abbrev bA:Ea:=zi (zr qw (zr qw (j7 (zA 1) yo (jY (zA 2))) (qc (zi (zA 3) zq))) (j7 (zA 1) (jY (zr qw (zA 2) (zE (.int 1)))) yo)) (zi (zr qw (zr qw (j7 (zA 1) yo (jY (zA 2))) (qc (zi (zA 4) zq))) (j7 (zA 1) (jY (zr qw (zA 2) (zE (.int 1)))) yo)) (zi (yb (jc (zA 1))) (zi (zr qm (zA 1) (zA 2)) (zi (qc zq) zq))))
abbrev bB:Ea:=zi (zr qw (j7 (zA 1) yo (jY (zA 2))) (j7 (zA 1) (jY (zr qw (zA 2) (zE (.int 1)))) yo)) (zi (zr qw (zA 1) (zr Ji (j7 (zA 1) yo (jY (zE (.int 1)))) (zE (.int 4)))) (zi (qc (zi (zA 1) zq)) (zi (zE .non) (zi Wj (zi (zE (.int 0)) (zi (Y2 (zA 1) (jN kE (zE (.int 1)))) zq))))))
def N6 (s:qz n A)(hl:1<=ps.length)(h4:ps.length<=4)(h1:1<=K)(h8:K<=8)(q:∀m∈ps,m.length=K):∃w B,Q2 [.ref n,.tup (ps.map zt)] A=.ok w B/\w8 n B w/\Kn n A B:=by
 have lp:(ps.map zt).length=ps.length:=ah _;obtain⟨at_,B1,e1,ha,k1,_⟩:=wM (ρ:=[rO n,some (.tup (ps.map zt)),none,none,none,none]) s rfl (QC (i:=1) rfl) (by lia) (by lia)
 have E:at_<ps.length:=by lia
 obtain⟨m,hm,em⟩:∃m,m∈ps/\∀A,qm _ _ A=.ok (zt m) A:=⟨ps.getD at_ [],j9 E,λA=>JH E⟩;have lm:=q m hm;obtain⟨t,B2,e2,hb,k2⟩:=mX (r:=m) k1.st (by lia) (by lia)
 obtain⟨w3,J,e3,p,k3⟩:=G2 (ρ:=[rO n,some _,some _,some t,none,none]) (a:=zi (zE (.int 100)) (zi (jN kE (zE (.int 100))) zq)) k2.st rfl rfl rfl (by decide) (by decide)
 obtain⟨g,rfl⟩:∃g:Int,w3=.int g:=by simp[bL,bx,or_false]at p;rcases p with rfl|rfl<;>exact⟨_,rfl⟩
 have tc:TE (j7 (zr qm (zA 1) (zA 2)) yo (jY (jN kE (zE (.int 1))))) [rO n,some _,some _,some t,none,none] _:=Zm (λA=>(zF (zl rfl) (zl rfl)).trans (em A)) (λ_=>rfl) (λ_=>rfl);have zc:=ZT (xs:=m.map W.int) (l:=none) (u:=some (-1));rw[ah]at zc;have I:=(zF (tc B2) (JC (zu e3 zI))).trans (show qw _ _ J=.ok _ J by unfold qw;dsimp only;rw[aj (by rw[aA];unfold zM;lia)])
 have z:∀A,wX n A (.tup (kM (m.map W.int) none (some (-1))++[.int g])):=λA=>by
  refine .tup _ rfl (by rw[ai,aA];lia) λx h=>?_
  rcases cH.mp h with h|h
  ·obtain⟨v,_,rfl⟩:=cC.mp (gv h)
   exact .flat (kX v)
  ·rw[cG.mp h];exact .flat (kX g)
 generalize W.tup _=great at I z;have d:=(k1.trans k2).trans k3;have s3:=d.st;have things:∀Y:Option W,(∀D,Ext J D->AP n D bA [rO n,some _,some _,some t,some great,Y] 5/\AP n D bB [rO n,some _,some _,some t,some great,Y] 7):=λY D xD=>by
  generalize H:([rO n,some _,some (.int _),some t,some great,Y]:En)=ρ;have S:=s3.ext xD;have tt:TE (zA 1) ρ (ps.map zt):=λA=>by rw[<- H];rfl
  have M:MX n D _:=OQ λm hm=>by rw[q m hm];exact h8
  have mb:=MX.one λA x=>(λA x=>(hb.mono k2.st k3).mono s3 (Kn.ext s3 x)) A (xD.trans x);have c1:TE (j7 _ yo (jY (zA 2))) ρ _:=Zm tt (λ_=>rfl) (λA=>by rw[<- H];rfl)
  have c2:TE (j7 _ (jY (zr qw (zA 2) (zE (.int 1)))) yo) ρ (kM _ (some ((at_:Int)+1)) none):=Zm tt (λA=>by rw[<- H];rfl) (λ_=>rfl)
  have c3:TE (j7 (zA 1) yo (jY (zE (.int 1)))) ρ ((ps.map zt).take 1):=by rw[<- O7];exact Zm tt (λ_=>rfl) (λ_=>rfl)
  have z1:=ZT (xs:=ps.map zt) (l:=none) (u:=some (at_:Int));have z2:=ZT (xs:=ps.map zt) (l:=some ((at_:Int)+1)) (u:=none);have l1:((ps.map zt).take 1).length=1:=by rw[bc];lia
  have c4:TE (zr Ji _ (zE (.int 4))) ρ (List.replicate 4 _).flatten:=λA=>(zF (c3 A) zQ).trans (by
   unfold Ji;dsimp only;rw[aj (by rw[l1];decide)]
   rfl)
  have l4:(List.replicate 4 ((ps.map zt).take 1)).flatten.length=4:=by rw[List.length_flatten,List.map_replicate,List.sum_replicate_nat,l1]
  have m4:MX n D (List.replicate 4 ((ps.map zt).take 1)).flatten:=λx h=>by obtain⟨l,hl,h⟩:=List.mem_flatten.mp h;rw[List.eq_of_mem_replicate hl]at h;exact M x (List.mem_of_mem_take h)
  have c5:TE (Y2 (zA 1) _) ρ (ps.map zt).reverse:=λA=>by
   unfold Y2;rw[tt A,zG]
   have:jY (jN kE (zE (.int 1))) ρ A=.ok _ A:=rfl
   rw[this,zG];dsimp only;rw[aj rfl]
  refine⟨?_,?_⟩
  ·refine gJ S (Jg (kU (kU c1 (Qy (λA=>by rw[<- H];rfl)) (by simp[aA];lia)) c2 (by rw[ai,aA];lia)) (by rw[ai,ai,aA];lia) ((M.cut.app mb).app M.cut)) ?_
   refine gJ S (Jg (kU (kU c1 (Qy (λA=>by rw[<- H];rfl)) (by simp[aA];lia)) c2 (by rw[ai,aA];lia)) (by rw[ai,ai,aA];lia) ((M.cut.app (MX.one λA x=>z A)).app M.cut)) ?_
   refine gJ S (λA x=>⟨_,_,j4 (yq (tt A) rfl),Ext.one,.oth .lst K0 (by decide)⟩) ?_
   refine gJ S (Jg (λA=>by rw[<- H];exact(zF (zl rfl) (zl rfl)).trans (em A)) (by rw[ah];lia) nt) ?_
   exact gJ S (Jg (λA=>rfl) (by simp) (λx h=>by cases h)) NQ
  ·refine gJ S (Jg (kU c1 c2 (by lia)) (by rw[ai];lia) (M.cut.app M.cut)) ?_
   refine gJ S (Jg (kU tt c4 (by lia)) (by rw[ai];lia) (M.app m4)) ?_
   refine gJ S (Jg (Qy tt) (by simp) (MX.one λA _=>.tup _ rfl (by lia) λx h=>by obtain⟨r,_,rfl⟩:=cC.mp h;exact .flat (KS r))) ?_
   refine gJ S (Ma (λ_=>rfl) (λ_=>rfl) (by decide)) ?_
   refine gJ S (λA _=>⟨.ref A.length,A++[.dct []],rfl,Ext.one,.oth .dct (by unfold qZ;dsimp only;rw[z0]) (by decide)⟩) ?_
   refine gJ S (Ma (λ_=>rfl) (λ_=>rfl) (by decide)) ?_
   exact gJ S (Jg c5 (by rw[List.length_reverse];lia) (λx h=>M x (List.mem_reverse.mp h))) NQ
 obtain⟨us,B4,e4,P,l4,h4⟩:=(things none J Ext.refl).1 J Ext.refl;have s4:=s3.ext P;obtain⟨vs,f,e5,N,l5,h5⟩:=(things (rO B4.length) _ (P.trans Ext.one)).2 (B4++[.lst us]) Ext.refl;have Z:=(zF (ma:=zA 5) rfl (qO e5)).trans (Yw (ji (N.at z0)) z0 (by unfold zM;lia))
 have x6:Ext _ (f++[O.lst vs]++[O.lst (us++vs)]):=(N.trans Ext.one).trans Ext.one;have L:(f++[O.lst vs]++[O.lst _])[(f++[O.lst vs]).length]? =some (.lst (us++vs)):=z0;have j:Ext f (f++[O.lst vs]++[O.lst (us++vs)]):=Ext.one.trans Ext.one;generalize (f++[O.lst vs]).length=g6 at Z L;generalize f++[O.lst vs]++[O.lst _]=B6 at Z L x6 j;have X:=Ext.one.trans x6;have Q:=s4.ext X;have C:∀w∈us++vs,w8 n B6 w:=λw hw=>by
  rcases cH.mp hw with hw|hw
  ·exact(h4 w hw).mono s4 (Kn.ext s4 X)
  ·have s5:=(s4.ext (Ext.one)).ext N
   exact(h5 w hw).mono s5 (Kn.ext s5 j)
 have U:g6≠n:=by
  rintro rfl
  obtain⟨c,b,e,_⟩:=Q;rw[L]at e;injection e with e
  injection e with e
  have:=congrArg List.length e
  simp at this;lia
 obtain⟨w7,B7,e7,o,T⟩:=G2 (ρ:=[rO n,some _,some _,some t,some great,rO g6]) (a:=zi (zE (.int 0)) (zi (zE (.int 0)) (zi (zE (.int 0)) (zi (zE (.int 1)) (zi (zE (.int 2)) (zi (zE (.int 3)) (zi (zE (.int 4)) (zi (zE (.int 5)) (zi (zE (.int 6)) (zi (zE (.int 7)) (zi (zE (.int 8)) (zi (zE (.int 9)) (zi (zE (.int 10)) (zi (zE (.int 11)) zq)))))))))))))) Q rfl rfl rfl (by decide) (by decide)
 obtain⟨i,rfl,hi⟩:∃i:Nat,w7=.int (i:Int)/\i<12:=by
  simp only[bL,bx,or_false]at o;rcases o with rfl|rfl|rfl|rfl|rfl|rfl|rfl|rfl|rfl|rfl|rfl|rfl|rfl|rfl
  ·exact⟨0,rfl,by decide⟩
  ·exact⟨0,rfl,by decide⟩
  ·exact⟨0,rfl,by decide⟩
  ·exact⟨1,rfl,by decide⟩
  ·exact⟨2,rfl,by decide⟩
  ·exact⟨3,rfl,by decide⟩
  ·exact⟨4,rfl,by decide⟩
  ·exact⟨5,rfl,by decide⟩
  ·exact⟨6,rfl,by decide⟩
  ·exact⟨7,rfl,by decide⟩
  ·exact⟨8,rfl,by decide⟩
  ·exact⟨9,rfl,by decide⟩
  ·exact⟨10,rfl,by decide⟩
  ·exact⟨11,rfl,by decide⟩
 have y:i<(us++vs).length:=by rw[ai,l4,l5];exact hi
 refine⟨_,B7,qe ?_,(C _ (aJ y)).mono Q T,((d.trans (Kn.ext s3 P)).trans (Kn.ext s4 X)).trans T⟩;exact(zD ((ql e1).trans rfl)).trans ((zD ((ql ((zO (zu (zl rfl) (zu ((zF (zl rfl) (zl rfl)).trans (em _)) zI))).trans e2)).trans rfl)).trans ((zD ((ql I).trans rfl)).trans ((zD ((ql (qO e4)).trans rfl)).trans ((zD ((ql Z).trans rfl)).trans (zL (qb ((zF (zl rfl) e7).trans (jP (T.kp.get L U) (aa y)))))))))
end
def EJ {j:jf}{s:W->Ex}{N:Nat}{I:Nat->En->Hx->Prop}{Q:W->Hx->Prop}
  (H:∀i n A,i<N->I i n A->∃w,j.at_ A i=some (some w)/\((∃ρ1 A1,s w n A=.ok (.nx ρ1) A1/\I (i+1) ρ1 A1)∨∃r A1,s w n A=.ok (.rt r) A1/\Q r A1))(d:∀n A,I N n A->j.at_ A N=some none):
  ∀(f i:Nat)(n:En)(A:Hx),i+f=N->I i n A->(∃a b,j6 j s f i n A=.ok (.nx a) b/\I N a b)∨∃r b,j6 j s f i n A=.ok (.rt r) b/\Q r b:=by
 intro f
 induction f with
 |zero=>
  intro i n A h c
  have:i=N:=by lia
  subst this;exact .inl ⟨n,A,Gg (d _ _ c),c⟩
 |succ f l=>
  intro i n A h c;obtain⟨w,p,o|o⟩:=H i n A (by lia) c
  ·obtain⟨ρ1,A1,o,g⟩:=o
   rcases l (i+1) ρ1 A1 (by lia) g with ⟨a,b,e,q⟩|⟨r,b,e,q⟩
   ·exact .inl ⟨a,b,(KA p o).trans e,q⟩
   ·exact .inr ⟨r,b,(KA p o).trans e,q⟩
  ·obtain⟨r,A1,o,g⟩:=o
   refine .inr ⟨r,A1,?_,g⟩;unfold j6;rw[p];dsimp only;rw[o]
   rfl
def la (l:cb):Nat:=l.getLastD 0
structure kF (t:bY)(ks:bZ)(l:cb):Prop where
 up:l.Pairwise (· < ·)
 lt:∀a∈l,a<t.length
 fr:l.Pairwise λa b=>at2 t a b∈ks
section
variable {ks:bZ}{l m:cb}{p:Nat}
def NC:la (l++[p])=p:=by unfold la;simp
def nu (h:m.Pairwise (· < ·)){a:Nat}(H:a∈m):a<=la m:=by
 rcases List.eq_nil_or_concat m with rfl|⟨M,q,rfl⟩
 ·cases H
 ·rw[List.concat_eq_append]at h H ⊢
  rw[NC];rcases cH.mp H with H|H
  ·have:=(List.pairwise_append.mp h).2.2 a H q (cG.mpr rfl)
   lia
  ·rw[cG.mp H]
   exact ax _
def nv (h:m≠[]):la m∈m:=by
 rcases List.eq_nil_or_concat m with rfl|⟨M,q,rfl⟩
 ·exact absurd rfl h
 ·rw[List.concat_eq_append,NC]
  simp
def Nw {l:cb}(h:l.Nodup)(c:∀a∈l,a<n):l.length<=n:=by
 have:=UQ n (l.map λ(a:Nat)=>(a:Int)) (List.pairwise_map.mpr (h.imp λH z=>H (by lia))) (λr b=>by
  obtain⟨a,d,rfl⟩:=cC.mp b
  have:=c a d
  lia)
 rwa[ah]at this
def kF.nd (h:kF t ks l):l.Nodup:=h.up.imp λH=>aM H
def kF.len (h:kF t ks l):l.length<=t.length:=Nw h.nd h.lt
structure Mo (t:bY)(ks:bZ)(m:Nat):Prop where
 ex:∃l,kF t ks l/\l.length=m
 le:∀l,kF t ks l->l.length<=m
end
section
variable {m:bZ}{v:Int}
def CM (h:m.length<=100):qw (zt m) (.tup [.int v]) A=.ok (zt (m++[v])) A:=by
 unfold qw zt;dsimp only;rw[aj (by rw[ah];unfold zM;simp;lia),aS]
 rfl
end
abbrev nI (l:cb):bZ:=l.map λ(a:Nat)=>(a:Int)
def lw (l:cb):W:=zt (nI l)
def ny (l:cb):(lw l).nr=true:=Zk _
section
variable {m:cb}{p:Nat}
def nz (v:Int)(r:bZ):Ya (.int v) (r.map W.int)=decide (v∈r):=by
 induction r with
 |nil=>rfl|cons x r i=>
  unfold Ya at i ⊢;rw[a5,any_cons,i];show((x==v) || decide (v∈r))=_
  by_cases h:x=v
  ·subst h
   simp
  ·have:(x==v)=false:=by simp[h]
   rw[this,Bool.false_or];have H:¬v=x:=λz=>h z.symm;simp[H]
def nA {b:Bool}(v:Int)(r:bZ)(A:Hx):QI b (.int v) (zt r) A=.ok (.bl (if b then !decide (v∈r) else decide (v∈r))) A:=by
 show(if ym _&&(r.map W.int).all ym then R.ok _ A else .bad)=_;rw[nz,aj];rw[all_map];show(true&&r.all λ_=>true)=true;simp
def nB (h:m.length<=100):qw (lw m) (.tup [.int (p:Int)]) A=.ok (lw (m++[p])) A:=by
 have:=CM (m:=nI m) (v:=(p:Int)) (A:=A) (by rw[ah];exact h)
 unfold lw;rw[this];unfold nI;rw[aS]
 rfl
end
section
variable {l:cb}{a:Nat}
structure QU (n:Nat)(l:cb):Prop where
 up:l.Pairwise (· < ·)
 lt:∀a∈l,a<n
def QU.nd (h:QU n l):l.Nodup:=h.up.imp λH=>aM H
def QU.len (h:QU n l):l.length<=n:=Nw h.nd h.lt
def nC (t:bY)(r:bZ):qW [zC t,zt r]=true:=by show((zC t).nr&&((zt r).nr&&true))=true;rw[Qw,Zk];rfl
def Nl {a:Ex}{M:Ev}{N:Nat}{z:R Fl}(H:M ρ A=.ok (.tup ws) B)(h:ws.length=N)(e:j6 ⟨λA i=>(zK (.tup ws) A).map λws=>ws[i]?,ws.length⟩ (turn tw a) N 0 ρ B=z):w5 (qJ M) tw a ρ A=z:=by subst h;exact(yP (wq H)).trans e
end
def J7 (t:bY)(K:bZ)(l:cb)(a:Nat):Bool:=l.all λb=>decide (b=a) || decide (at2 t a b∈K)
def Qe (t:bY)(K:bZ)(l:cb):Bool:=l.all (J7 t K l)
section
variable {ks:bZ}{l:cb}{p a b:Nat}{C:Hx}{w:W}
def kF.any (o:zZ t)(h:kF t ks l){a b:Nat}(n:a∈l)(f:b∈l)(H:a≠b):at2 t a b∈ks:=by
 obtain⟨i,p,rfl⟩:=bf n;obtain⟨j,e,rfl⟩:=bf f;have d:i≠j:=λz=>H (by subst z;rfl)
 have g:=List.pairwise_iff_getElem.mp h.fr;rcases Nat.lt_or_gt_of_ne d with c|c
 ·exact g i j p e c
 ·rw[o.sy _ _ (h.lt _ n) (h.lt _ f)]
  exact g j i e p c
def JD (d:zZ t)(h:QU t.length l):Qe t ks l=true↔kF t ks l:=by
 constructor
 ·intro g
  refine⟨h.up,h.lt,List.Pairwise.imp_of_mem ?_ h.up⟩;intro a b c H f;have i:=cF.mp (cF.mp g a c) b H;rw[ba,ag,ag]at i;exact i.resolve_left (by lia)
 ·intro g
  refine cF.mpr λa c=>cF.mpr λb H=>?_;rw[ba,ag,ag]
  by_cases e:b=a
  ·exact .inl e
  ·exact .inr (g.any d c H (Ne.symm e))
abbrev nE:jH:=qC 1 [0,1,3] (qJ qo) (qa 0) (gT (zr jB zH qH) (zr G8 (zr qm (zr qm zU qH) zH) qo)) (qi zH)
def lit (l:cb)(i:Nat)(h:i<l.length):((nI l).map W.int)[i]? =some (.int ((l[i]:Nat):Int)):=by rw[ar,ar,aa h];rfl
def Kc (l:cb):((nI l).map W.int).length=l.length:=by rw[ah,ah]
def Rf (p:α->Bool)(l:List α)(i:Nat):((l.take i).filter p).length<=l.length:=bo (bC ..) (by rw[bc];lia)
def R0 (p:α->Bool){l:List α}(h:i<l.length):(l.take (i+1)).filter p=(l.take i).filter p++(if p l[i] then [l[i]] else []):=by rw[take_succ h,filter_append];cases e:p l[i]<;>simp[e]
def nF (g:zZ t)(h:QU t.length l)(j:a<t.length)(A:Hx):nE [some (zC t),some (zt ks),some (lw l),some (.int (a:Int))] A=.ok ((l.filter λb=>!(decide (b=a) || decide (at2 t a b∈ks))).map λ(b:Nat)=>W.int (b:Int)) A:=by
 have s:=g.n8;have r:=h.len;obtain⟨n,u,C,e,_,p,H⟩:=ZM (nl:=1) (cap:=[0,1,3]) (mi:=qJ qo) (tw:=qa 0) (em:=qi zH) (ρ:=[some _,some _,some (lw l),some _])
  (I:=λi v u D=>(∃y,v=[y,some (zC t),some (zt ks),some (.int (a:Int))])/\D=A/\u=((l.take i).filter λb=>!(decide (b=a) || decide (at2 t a b∈ks))).map λ(b:Nat)=>W.int (b:Int)) (wq (zl rfl)) (Kc l)
  (λi v u D w ⟨⟨y,f⟩,o,H⟩=>by
   subst f o H;refine⟨.int _,[some _,some _,some _,some _],by show some (_[i]?)=_;rw[lit l i w],rfl,?_⟩
   have d:zr jB zH qH [some _,some (zC t),some (zt ks),some _] D=.ok _ D:=(zF (zl rfl) (zl rfl)).trans ((Sb _ _ _).trans (by rw[show decide (((l[i]:Nat):Int)=(a:Int))=decide (l[i]=a) from decide_eq_decide.mpr (by lia)]))
   have q:zr G8 (zr qm (zr qm zU qH) zH) qo [some _,some _,some _,some _] D=.ok (.bl (!decide (at2 t a l[i]∈ks))) D:=
    (zF ((zF ((zF (zl rfl) (zl rfl)).trans (JH j)) (zl rfl)).trans (KY (by rw[g.sq _ (j9 j)];exact(h.lt _ (aJ w))))) (zl rfl)).trans (nA _ _ _)
   have E:gT (zr jB zH qH) (zr G8 (zr qm (zr qm zU qH) zH) qo) [some (.int ((l[i]:Nat):Int)),some (zC t),some (zt ks),some (.int (a:Int))] D=.ok (.bl (!(decide (l[i]=a) || decide (at2 t a l[i]∈ks)))) D:=by
    by_cases c:l[i]=a
    ·rw[aC c]at d ⊢
     exact ZW d
    ·rw[aF c]at d ⊢
     exact(wQ d).trans (q.trans (by rw[Bool.false_or]))
   have x:=R0 (λb=>!(decide (b=a) || decide (at2 t a b∈ks))) w;cases c:!_ with
   |true=>
    rw[c]at E;refine .inl ⟨D,_,_,D,E,Ze (zl rfl) ?_,⟨_,rfl⟩,rfl,?_⟩
    ·rw[ah]
     have:=Rf (λb=>!(decide (b=a) || decide (at2 t a b∈ks))) l i
     unfold zM;lia
    ·rw[x,aj c,aS]
     rfl
   |false=>
    rw[c]at E;refine .inr ⟨D,E,⟨_,rfl⟩,rfl,?_⟩;rw[x,av (by rw[c];simp),bq])
  (λv u D _=>by show some (_[l.length]?)=_;rw[aw (by rw[Kc];lia)]) ⟨⟨_,rfl⟩,rfl,rfl⟩
 subst p H;rw[bG]at e;exact e
def nG (v:zZ t)(h:QU t.length l)(A:Hx):Vs [zC t,zt ks,lw l] A=.ok (.bl (Qe t ks l)) A:=by
 have T:∀(a:Nat)(C:Hx),a<t.length->∃p,zS (jx _ wj qj) qj [some _,some _,some (lw l),some _] C=(if J7 t ks l a then .ok _ p else .ok _ p):=λa C d=>by
  have q:=j4 (nF (ks:=ks) v h d C);generalize s:((l.filter λb=>!_).map λ(b:Nat)=>W.int _)=us at q;have E:=(zF q (qO zI)).trans (ne_nil (ji z0) z0 (λw L=>by rw[<- s]at L;obtain⟨b,_,rfl⟩:=cC.mp L;exact kX _))
  refine⟨C++[.lst us]++[.lst []],?_⟩;have x:us.isEmpty=J7 t ks l a:=by
   rw[<- s];unfold J7
   have:((l.filter λb=>!(decide (b=a) || decide (at2 t a b∈ks))).map λ(b:Nat)=>W.int (b:Int)).isEmpty=true↔(l.all λb=>decide (b=a) || decide (at2 t a b∈ks))=true:=by rw[List.isEmpty_iff,map_eq_nil_iff,List.filter_eq_nil_iff,bh];exact⟨λg b o=>by have:=g b o;revert this;cases (decide (b=a) || decide (at2 t a b∈ks))<;>decide,λg b o=>by have:=g b o;revert this;cases (decide (b=a) || decide (at2 t a b∈ks))<;>decide⟩
   cases c1:((l.filter λb=>!_).map λ(b:Nat)=>W.int _).isEmpty with
   |true=>exact(this.mp c1).symm|false=>
    cases c2:(l.all λb=>decide (b=a) || decide (at2 t a b∈ks)) with|false=>rfl|true=>rw[this.mpr c2]at c1;cases c1
  rw[x]at E;cases c:J7 t ks l a with
  |true=>
   rw[c]at E;exact(zD ((q9 E).trans qD)).trans qD
  |false=>
   rw[c]at E;exact zL ((jV E).trans (zL (qb zQ)))
 have go:=EJ (j:=⟨λA i=>(zK (lw l) A).map λM=>M[i]?,((nI l).map W.int).length⟩)
  (I:=λi K _=>(∃y,K=[some _,some _,some (lw l),y])/\∀a∈l.take i,J7 t ks l a=true) (Q:=λr _=>r=.bl false/\Qe t ks l=false)
  (λi K D J ⟨⟨y,n⟩,H⟩=>by
   subst n;refine⟨.int _,by show some (_[i]?)=_;rw[lit l i J],?_⟩
   obtain⟨p,e⟩:=T l[i] D (h.lt _ (aJ J));have f:=(kh (tw:=qa 3) (ρ:=[some _,some _,some (lw l),y]) rfl).trans e;cases c:J7 t ks l l[i] with
   |true=>
    rw[aj c]at f;refine .inl ⟨_,_,f,⟨_,rfl⟩,λa d=>?_⟩;rw[take_succ J]at d;rcases cH.mp d with d|d
    ·exact H a d
    ·rw[cG.mp d];exact c
   |false=>
    rw[av (by rw[c];simp)]at f
    refine .inr ⟨_,_,f,rfl,?_⟩;cases z:Qe t ks l with|false=>rfl|true=>rw[cF.mp z _ (aJ J)]at c;cases c)
  (λK D _=>by show some (_[l.length]?)=_;rw[aw (by rw[Kc];lia)]) l.length 0 [some (zC t),some (zt ks),some (lw l),none] [] (by lia) ⟨⟨_,rfl⟩,λa d=>by rw[take_zero]at d;cases d⟩
 have nr:=by show((zC t).nr&&((zt ks).nr&&((lw l).nr&&true)))=true;rw[Qw,Zk,ny];rfl
 rcases go with ⟨u,B,e,_,H⟩|⟨r,B,e,rfl,hf⟩
 ·rw[bG]at H
  rw[show Qe t ks l=true from cF.mpr H]
  refine Zn (A1:=B) nr rfl (qe ?_);exact(zD (Nl (zl rfl) (Kc l) e)).trans (zL (qb zQ))
 ·rw[hf]
  refine Zn (A1:=B) nr rfl (qe ?_);exact zL (Nl (zl rfl) (Kc l) e)
end
def As:Nat->List (cb)
 |0=>[[]]|n+1=>As n++(As n).map λl=>l++[n]
theorem Md:∀n,(As n).length=2 ^ n
 |0=>rfl|n+1=>by show(As n++(As n).map λl=>l++[n]).length=_;rw[ai,ah,Md n,Nat.pow_succ];lia
theorem gw:∀{n:Nat}{l:cb},l∈As n↔QU n l
 |0,l=>by
  show l∈[[]]↔_;rw[List.mem_singleton]
  constructor
  ·rintro rfl
   exact⟨.nil,λa H=>by cases H⟩
  ·intro h
   cases l with|nil=>rfl|cons a l=>exact absurd (h.lt a (au ..)) (by lia)
 |n+1,l=>by
  show l∈As n++(As n).map _↔_;rw[List.mem_append,List.mem_map]
  constructor
  ·rintro(h|⟨m,h,rfl⟩)
   ·have g:=gw.mp h
    exact⟨g.up,λa H=>by have:=g.lt a H;lia⟩
   ·have g:=gw.mp h
    refine⟨List.pairwise_append.mpr ⟨g.up,List.pairwise_singleton _ _,λa H b i=>?_⟩,λa H=>?_⟩
    ·rw[cG.mp i]
     exact g.lt a H
    ·rcases cH.mp H with H|H
     ·have:=g.lt a H;lia
     ·rw[cG.mp H];lia
  ·intro h
   by_cases c:n∈l
   ·right
    have d:l≠[]:=λz=>by rw[z]at c;cases c
    have f:la l=n:=by have o:=nu h.up c;have j:=h.lt _ (nv d);lia
    refine⟨l.dropLast,gw.mpr ⟨h.up.sublist (List.dropLast_sublist l),λa H=>?_⟩,?_⟩
    ·have e:l=l.dropLast++[la l]:=by unfold la;rw[List.getLastD_eq_getLast?,List.getLast?_eq_getLast d];exact(List.dropLast_concat_getLast d).symm
     have up:=h.up;rw[e]at up
     have:=(List.pairwise_append.mp up).2.2 a H _ (cG.mpr rfl)
     lia
    ·rw[<- f]
     unfold la;rw[List.getLastD_eq_getLast?,List.getLast?_eq_getLast d];exact List.dropLast_concat_getLast d
   ·left
    refine gw.mpr ⟨h.up,λa H=>?_⟩
    have:=h.lt a H
    have:a≠n:=λz=>c (z ▸ H)
    lia
section
variable {ks:bZ}{l m:cb}{k p a b:Nat}{C:Hx}
def gZ (t:bY)(K:bZ)(c:Nat):List (cb):=((As t.length).filter (Qe t K)).filter λl=>decide ((l.length:Int)=(c:Int))
def U1 (h:zZ t){c:Nat}:l∈gZ t ks c↔kF t ks l/\l.length=c:=by
 unfold gZ;rw[bD,bD,ag]
 constructor
 ·rintro⟨⟨a,b⟩,H⟩
  exact⟨(JD h (gw.mp a)).mp b,by lia⟩
 ·rintro⟨a,b⟩
  have r:QU t.length l:=⟨a.up,a.lt⟩;exact⟨⟨gw.mpr r,(JD h r).mpr a⟩,by lia⟩
def nJ:∀n,n<9->∀c,c<9->(n=8/\c=4)∨(As n).countP (λl=>decide (l.length=c))<64:=by decide +kernel
def nK:∀b,b<8->∀a,a<b->(As 8).countP (λl=>decide (l.length=4)&&!(l.contains a&&l.contains b))<64:=by decide +kernel
def nL (d:zZ t){c:Nat}(h:Mo t ks c):(gZ t ks c).length<64:=by
 have s:=d.n8;obtain⟨l,e,q⟩:=h.ex;have j:=by have:=e.len;omega
 unfold gZ;rw[List.filter_filter,<- List.countP_eq_length_filter];rcases nJ t.length (by lia) c (by omega) with ⟨E,u⟩|g
 ·obtain⟨a,b,H,f,v⟩:∃a b,a<b/\b<8/\at2 t a b∉ks:=by
   refine Classical.byContradiction λo=>?_;have r:kF t ks _:=⟨bW,λa i=>cE.mp i,by
    refine List.Pairwise.imp_of_mem ?_ bW;intro a b i f H;refine Classical.byContradiction λz=>o ⟨a,b,H,?_,z⟩
    have:=cE.mp f
    lia⟩
   have:=h.le _ r
   rw[aN]at this;lia
  rw[E];refine Nat.lt_of_le_of_lt (List.countP_mono_left λl e p=>?_) (nK b f a H);rw[ak]at p;have n:=of_decide_eq_true p.1;have g:=(JD d (by rw[E];exact gw.mp e)).mp p.2
  rw[ak,ag];refine⟨by lia,?_⟩
  cases z:(l.contains a&&l.contains b) with
  |false=>rfl|true=>
   rw[ak,List.contains_iff_mem,List.contains_iff_mem]at z;exact absurd (g.any d z.1 z.2 (by lia)) v
 ·refine Nat.lt_of_le_of_lt (List.countP_mono_left λl _ p=>?_) g
  rw[ak]at p
  have:=of_decide_eq_true p.1
  exact aC (by lia)
theorem Mk:∀{L:List (cb)},(∀l∈L,l≠[])->QD (L.map lw)=some (L.map nI)
 |[],_=>rfl|l::L,h=>by
  show QD (.tup _::L.map lw)=_;unfold QD;rw[Qo];dsimp only;rw[av (λz=>h l (au ..) (List.map_eq_nil_iff.mp z)),(Mk λm H=>h m (ao _ H))]
  rfl
def VT {M:Ev}{ifs:Ev}{f g:α->W}{L:List α}{P:α->Bool}{r:Nat}(t:M ρ A=.ok (.ref r) A)(j:A[r]? =some (.lst (L.map f)))(p:L.length<=1000)(u:∀x∈L,ifs (some (f x)::cap.map λi=>(ρ[i]?).join) A=.ok (.bl (P x)) A)(v:∀x∈L,P x=true->me (some (f x)::cap.map λi=>(ρ[i]?).join) A=.ok (g x) A):
  qC 1 cap (qJ M) (qa 0) ifs (qi me) ρ A=.ok ((L.filter P).map g) A:=by
 obtain⟨a,q,C,e,_,o,H⟩:=ZM (nl:=1) (tw:=qa 0) (ifs:=ifs) (em:=qi me)
  (I:=λi a q D=>(∃y,a=y::cap.map λi=>(ρ[i]?).join)/\D=A/\q=((L.take i).filter P).map g) (Q8 t j) (ah ..)
  (λi a q D b ⟨⟨y,d⟩,l,H⟩=>by
   subst d l H;have n:=aJ b;refine⟨f L[i],some _::cap.map λi=>(ρ[i]?).join,G9 j (by rw[ar,aa b];rfl),rfl,?_⟩
   have s:=R0 P b;have E:=u _ n;cases c:P L[i] with
   |true=>
    rw[c]at E;refine .inl ⟨D,_,_,D,E,Ze (v _ n c) ?_,⟨_,rfl⟩,rfl,?_⟩
    ·rw[ah]
     have:=Rf P L i
     unfold zM;lia
    ·rw[s,aj c,aS]
     rfl
   |false=>
    rw[c]at E;refine .inr ⟨D,E,⟨_,rfl⟩,rfl,?_⟩;rw[s,av (by rw[c];simp),bq])
  (λa q D h=>by obtain⟨_,l,_⟩:=h;subst l;exact Xb j (by rw[ah];lia)) ⟨⟨none,rfl⟩,rfl,rfl⟩
 subst o H;rw[bG]at e;exact e
def P5 {M:Ev}{f g:α->W}{L:List α}{r:Nat}(a:M ρ A=.ok (.ref r) A)(H:A[r]? =some (.lst (L.map f)))(l:L.length<=1000)(e:∀x∈L,me (some (f x)::cap.map λi=>(ρ[i]?).join) A=.ok (g x) A):
  qC 1 cap (qJ M) (qa 0) jm (qi me) ρ A=.ok (L.map g) A:=by
 have:=VT (P:=λ_=>true) a H l (λx _=>zQ) λx h _=>e x h
 rwa[List.filter_eq_self.mpr λ_ _=>rfl]at this
abbrev Lv:Ex:=zS (je 2 (zr qw qo (yb (qC 1 [3] (qJ qo) (qa 0) jm (qi (zr qw zH (qc (zi zU zq)))))))) qj
def Nu (h:n<=8):(As n).length<=256:=by rw[Md];exact Nat.pow_le_pow_right (by decide) h
def nM (h:n<=8)(H:l∈As n):l.length<=8:=by have:=(gw.mp H).len;lia
def nN (b:zZ t):∃p y B,j6 (kZ 0 t.length) (turn (qa 3) Lv) t.length 0 [some (zC t),some (zt ks),some (.ref 0),none,none] [.lst [.tup []]]=.ok (.nx [some (zC t),some (zt ks),some (.ref p),y,none]) B/\B[p]? =some (.lst ((As t.length).map lw)):=by
 have f:=b.n8;obtain⟨a,B,e,p,y,h,d⟩:=wm (st:=turn (qa 3) Lv) (N:=t.length)
  (I:=λi g D=>∃p y,g=[some (zC t),some (zt ks),some (.ref p),y,none]/\D[p]? =some (.lst ((As i).map lw)))
  (λi g D j ⟨p,y,h,H⟩=>by
   subst h;have L:=Nu (n:=i) (by lia)
   have E:=P5 (cap:=[3]) (me:=zr qw zH (qc (zi zU zq))) (ρ:=[some (zC t),some (zt ks),some _,some (.int (0+(i:Int))),none]) (zl (i:=2) rfl) H (by lia) (λl c=>by
    have:=nM (by lia) c
    rw[bI];exact nB (by lia))
   refine⟨_,_,_,wR j,(kh rfl).trans ((zD ((ql ((zF (zl rfl) (j4 E)).trans (Yw (ji H) z0 (by rw[ah,ah];unfold zM;lia)))).trans rfl)).trans qD),_,_,rfl,?_⟩
   rw[z0];show _=some (O.lst ((As i++(As i).map λl=>l++[i]).map lw));rw[aS,aU]
   rfl)
  (λg D _=>wN (by lia)) t.length 0 [some _,some _,some _,none,none] [.lst [.tup []]] (by lia) ⟨0,none,rfl,rfl⟩
 subst h;exact⟨p,y,B,e,d⟩
def CP {c:Nat}(b:zZ t)(M:Mo t ks c)(J:1<=c)(A:Hx):Yg [zC t,zt ks] A=.ok (.ref A.length) (A++[.lst ((gO ((gZ t ks c).map nI)).map zt)]):=by
 have C:=b.n8;have L:=Nu C;obtain⟨p,y,B,e,w⟩:=nN b;have s:=VT (cap:=[0,1]) (ifs:=zR Vs (zi zU (zi qo (zi zH zq)))) (me:=zH) (ρ:=[some _,some (zt ks),some _,y,none]) (zl (i:=2) rfl) w (by lia)
  (λl H=>(zO (zu (zl rfl) (zu (zl rfl) (zu (zl rfl) zI)))).trans (nG b (gw.mp H) B)) (λl _ _=>zl rfl)
 have K:((As t.length).filter (Qe t ks)).length<=256:=bo (bC ..) L;have q:∀l∈(As t.length).filter _,kF t ks l:=λl H=>by obtain⟨P,N⟩:=List.mem_filter.mp H;exact(JD b (gw.mp P)).mp N
 generalize g:B++[O.lst _]=d;have a:d[B.length]? =some (.lst (((As t.length).filter (Qe t ks)).map lw)):=by rw[<- g];exact z0
 have E:∀(l:cb)(ρ:En)(A:Hx),ρ[0]? =some (some (lw l))->mQ ja _ ρ A=.ok _ A:=λl ρ A h=>by refine(jy (yq (zl h) rfl)).trans ?_;unfold ja;rw[Kc]
 have j:=P5 (cap:=[]) (ρ:=[some (zC t),some (zt ks),some _,y,none]) (zl (i:=2) rfl) a (by lia) (λl _=>E l _ _ rfl)
 have x:mQ wD (qC 1 [] (qJ qo) (qa 0) jm (qi (mQ ja (jc zH)))) [some (zC t),some (zt ks),some (.ref B.length),y,none] d=.ok (.int (c:Int)) d:=by
  obtain⟨l,H,v⟩:=M.ex;have n:=List.mem_filter.mpr ⟨gw.mpr ⟨H.up,H.lt⟩,(JD b ⟨H.up,H.lt⟩).mpr H⟩;have I:(((As t.length).filter (Qe t ks)).map λl=>W.int (l.length:Int))=(((As t.length).filter (Qe t ks)).map λl=>(l.length:Int)).map W.int:=by rw[aU];rfl
  have f:(((As t.length).filter _).map λl=>(l.length:Int))≠[]:=λz=>by rw[map_eq_nil_iff]at z;rw[z]at n;cases n
  rw[I]at j;refine(jy j).trans ((V9 f).trans ?_);have P:=G0 (cC.mpr ⟨l,n,rfl⟩:_∈((As t.length).filter _).map λl=>(l.length:Int));obtain⟨m,o,u⟩:=cC.mp (YA f);have N:=M.le m (q m o)
  congr 2
  lia
 have r:=VT (cap:=[4]) (ifs:=zr kH _ zU) (me:=zH) (ρ:=[some (zC t),some (zt ks),some _,y,some (.int (c:Int))]) (zl (i:=2) rfl) a (by lia)
  (λl H=>(zF (E l _ _ rfl) (zl rfl)).trans (Jq _ _ _)) (λl _ _=>zl rfl)
 have D:UY (yb (qC 1 [4] (qJ qo) (qa 0) (zr kH (mQ ja (jc zH)) zU) (qi zH))) [some (zC t),some (zt ks),some (.ref B.length),y,some (.int (c:Int))] d=.ok (.ref (d++[O.lst ((gZ t ks c).map lw)]).length) (d++[.lst ((gZ t ks c).map lw)]++[.lst ((gO ((gZ t ks c).map nI)).map zt)]):=by
  unfold UY;rw[j4 r,zG];unfold U0;dsimp only;rw[z0];dsimp only;rw[Mk (λl H z=>by have:=((U1 b).mp H).2;rw[z]at this;simp at this;lia)]
  dsimp only;rw[aj (by rw[ah];exact nL b M)]
  rfl
 refine V8 (k:=(d++[O.lst ((gZ t ks c).map lw)]).length) (nC t ks) (qe ?_) z0 (Q9 (λ_=>Zk _) _);dsimp only[Va,mq];refine(zD (ql (qO (zu (JC zI) zI)))).trans ?_;refine(zD ((yP (Zd (len_tab rfl) (wK (by lia)))).trans (by rw[aQ];exact e))).trans ?_
 refine(zD (ρ1:=[some _,some _,some _,y,none]) ((ql (j4 s)).trans (by rw[g];rfl))).trans ?_
 refine(zD (ql x)).trans ?_;exact zL (qb D)
end
section
variable {ks:bZ}
def nO (H:zZ t):∃c,Mo t ks c/\1<=c:=by
 have N:=H.n1;have i:kF t ks [0]:=⟨List.pairwise_singleton _ _,λa g=>by rw[cG.mp g];lia,List.pairwise_singleton _ _⟩
 have d:∀l,l∈(As t.length).filter _↔kF t ks l:=λl=>by
  rw[bD]
  constructor
  ·rintro⟨o,n⟩
   exact(JD H (gw.mp o)).mp n
  ·intro h
   exact⟨gw.mpr ⟨h.up,h.lt⟩,(JD H ⟨h.up,h.lt⟩).mpr h⟩
 have b:(((As t.length).filter _).map λl=>(l.length:Int))≠[]:=λz=>by
  rw[map_eq_nil_iff]at z
  have:=(d [0]).mpr i
  rw[z]at this;cases this
 obtain⟨l,f,e⟩:=cC.mp (YA b);have L:∀m,kF t ks m->m.length<=l.length:=λm j=>by
  have:=G0 (cC.mpr ⟨m,(d m).mpr j,rfl⟩:_∈((As t.length).filter _).map λl=>(l.length:Int))
  lia
 exact⟨l.length,⟨⟨l,(d l).mp f,rfl⟩,L⟩,L _ i⟩
end
def sl (l:cb)(f:Nat->Int):Int:=(l.map f).sum
def ZU (a:Nat)(l:cb)(f:Nat->Int):sl (a::l) f=f a+sl l f:=by unfold sl;rw[a5,sum_cons]
def Gs {l:cb}{f g:Nat->Int}(h:∀a∈l,f a=g a):sl l f=sl l g:=by unfold sl;rw[aW h]
def NT (l:cb)(f:Nat->Int)(v:Int):sl l (λa=>v * f a)=v * sl l f:=by
 induction l with|nil=>exact(mul_zero v).symm|cons a l i=>rw[ZU,ZU,i,Int.mul_add]
def MO (l:cb)(n:Nat)(g:Nat->Nat->Int):sl l (λa=>sm n (g a))=sm n λc=>sl l λa=>g a c:=by
 induction l with
 |nil=>exact(KP n).symm|cons a l i=>
  rw[ZU,i,<- UW];exact Zc λc _=>(ZU a l λa=>g a c).symm
def nP {f:Nat->Int}(h:∀i,i<n->0<=f i):0<=sm n f:=by
 induction n with
 |zero=>exact Int.le_refl _|succ n I=>
  rw[Qu]
  have:=I λi H=>h i (by lia)
  have:=h n (by lia)
  lia
def MN (l:cb){f:Nat->Int}{v:Int}(h:∀a∈l,f a<=v):sl l f<=(l.length:Int) * v:=by
 induction l with
 |nil=>exact Int.le_of_eq (Int.zero_mul v).symm|cons a l i=>
  rw[ZU,a7,Int.natCast_succ,Int.add_mul,one_mul]
  have:=i λb H=>h b (ao _ H)
  have:=h a (au ..)
  lia
def nQ {l:cb}{f:Nat->Int}{v L:Int}{a:Nat}(n:l.Nodup)(i:a∈l)(p:f a=v)(h:∀b∈l,b≠a->f b<=-L):sl l f<=v-((l.length:Int)-1) * L:=by
 induction l with
 |nil=>cases i|cons b l I=>
  have H:=List.pairwise_cons.mp n;rw[ZU,a7,Int.natCast_succ];have e:((l.length:Int)+1-1) * L=(l.length:Int) * L:=by congr 1;lia
  by_cases q:b=a
  ·subst q
   have j:=MN l λc d=>h c (ao _ d) λz=>H.1 c d z.symm;rw[Int.mul_neg]at j;lia
  ·have g:a∈l:=by
    rcases cB.mp i with z|z
    ·exact absurd z.symm q
    ·exact z
   have o:=I H.2 g λc d=>h c (ao _ d);have j:=h b (au ..) q;rw[Int.sub_mul,one_mul]at o;lia
section
variable {ks m:bZ}{ps:bY}{l:cb}{K:Nat}{S:Nat->List (bZ)}
def NR (l:cb)(f g:Nat->Int):sl l (λa=>f a+g a)=sl l f+sl l g:=by
 induction l with|nil=>rfl|cons a l i=>rw[ZU,ZU,ZU,i];lia
def nR (H:zZ t)(g:qp t=(K:Int))(f:HS t K S)(h:kF t ks l):0<=sl l λa=>sl l λb=>mv (pv K S m m) (at2 t a b):=by
 have i:(sl l λa=>sl l λb=>mv (pv K S m m) (at2 t a b))=sm t.length λc=>(sl l λa=>mv m (at2 t a c)) * (sl l λa=>mv m (at2 t a c)):=by
  have E:∀a∈l,(sl l λb=>mv _ _)=sm t.length λc=>mv m _ * (sl l λb=>mv m _):=λa e=>by rw[Gs λb d=>ML H g f (h.lt a e) (h.lt b d)];unfold dt;rw[MO];exact Zc λc _=>NT l _ _
  rw[Gs E,MO];refine Zc λc _=>?_;rw[<- NT];exact Gs λa _=>Int.mul_comm _ _
 rw[i];refine nP λc _=>?_;generalize (sl l λa=>mv m _)=z;rcases Int.le_total 0 z with q|q
 ·exact Int.mul_nonneg q q
 ·exact Int.mul_nonneg_of_nonpos_of_nonpos q q
theorem NN (H:zZ t)(d:qp t=(K:Int))(c:HS t K S)(h:kF t ks l):∀ps:bY,0<=sl l λa=>sl l λb=>pq K S ps (at2 t a b).toNat
 |[]=>by
  have:(sl l λa=>sl l λb=>pq K S [] (at2 t a b).toNat)=0:=by
   have e:∀L:cb,sl L (λ_=>(0:Int))=0:=λL=>by
    induction L with|nil=>rfl|cons a L i=>rw[ZU,i];rfl
   rw[show(λa=>sl l λb=>pq K S [] (at2 t a b).toNat)=λ_=>_ from funext λa=>e l]
   exact e l
  rw[this];exact Int.le_refl _
 |m::ps=>by
  have e:(sl l λa=>sl l λb=>pq K S (m::ps) (at2 t a b).toNat)=(sl l λa=>sl l λb=>mv (pv K S m m) (at2 t a b))+(sl l λa=>sl l λb=>pq K S ps (at2 t a b).toNat):=by
   rw[<- NR];refine Gs λa _=>?_;rw[<- NR]
   rfl
  have:=nR (m:=m) H d c h
  have:=NN H d c h ps
  lia
def Ab (e:zZ t)(o:qp t=(K:Int))(j:HS t K S)(h:kF t ks l)(g:l≠[])(n:0<lst K S ks ps):(l.length:Int)<=pq K S ps 0/lst K S ks ps+1:=by
 have c:∀k∈ks,pq K S ps k.toNat<=-lst K S ks ps:=λk c=>by
  have H:-_∈ks.map λk=>-(pq K S ps k.toNat):=cC.mpr ⟨k,c,rfl⟩
  have:minD 0 (ks.map λk=>-(pq K S ps k.toNat))<=-(pq K S ps k.toNat):=by
   generalize ks.map _=r at H;cases r with|nil=>cases H|cons b r=>exact GL r b _ H
  show _<=-minD 0 _;lia
 generalize lst K S ks ps=L at c n ⊢;have Q:=NN e o j h ps;have U:_<=_ * (pq K S ps 0-_ * L):=MN l λa d=>
  nQ h.nd d (by show pq K S ps (at2 t a a).toNat=_;rw[(e.dg a a (h.lt a d) (h.lt a d)).mpr rfl];rfl) λb i f=>c _ (h.any e d i λz=>f z.symm)
 generalize pq K S ps 0=P at U ⊢;have u:0<(l.length:Int):=by
  have:=List.length_pos_iff.mpr g
  lia
 have s:0<=P-((l.length:Int)-1) * L:=by
  refine Int.le_of_not_gt λq=>?_
  have:=Int.mul_neg_of_pos_of_neg u q
  lia
 have p:(l.length:Int)-1<=P/L:=(Int.le_ediv_iff_mul_le (by lia)).mpr (by lia)
 lia
end
section
variable {ks:bZ}{ps:bY}{b c K k:Nat}{S:Nat->List (bZ)}{w v u:W}{m:Ev}{Pu:Addr}
def NP (g:Bool)(A:Hx):ZK [.bl g,.bl g] A=.ok (.bl true) A:=by cases g<;>kernel_rfl
def nS {b M:Ev}{a:Hx}(H:b ρ A=.ok u A1)(h:M ρ A1=.ok v a):XB i j b M ρ A=.ok (.nx ((ρ.set i (some u)).set j (some v))) a:=by unfold XB;rw[H,zG,h,zG]
def nU {v:Int}(H:v=(i:Int))(h:m ρ A=.ok (.ref (B.length+9)) (B++GX i)):zr jB m (qF (zi (zE (.int v)) zq)) ρ A=.ok (.bl false) (B++GX i++[.lst [.int v]]):=by subst H;exact(zF h (qO (zu zQ zI))).trans (Ta (GZ (ji (Td B i))) (GZ z0) (by simp[PyData.eqv,PyData.eqvAll]))
def O6 {v:Int}(H:v=(i:Int))(h:m ρ A=.ok (.ref (B.length+9)) (B++GX i)):zr kH m (qF (zi (zE (.int v)) zq)) ρ A=.ok (.bl true) (B++GX i++[.lst [.int v]]):=by
 subst H;refine(zF h (qO (zu zQ zI))).trans ((LD (l:=[_]) (m:=[_]) (ji (Td B i)) z0).trans ?_);rw[aC rfl]
 rfl
def Nc {k d:Nat}(h:m ρ A=.ok (.ref (B.length+9)) (B++GX i))(H:ρ[k]? =some (rO d))(a:(B++GX i)[d]? =some (.lst [.int (i:Int)])):zr jB m (zA k) ρ A=.ok (.bl false) (B++GX i):=
 (zF h (zl H)).trans (Ta (GZ (Td B i)) (GZ a) (by simp[PyData.eqv,PyData.eqvAll]))
abbrev T0:Lm:=KI wk Zf
abbrev T1:Lm:=KJ wk Zf
abbrev T2:Lm:=KG wk Zf
abbrev T3:Lm:=KQ wk Zf
def GP (P:Addr):Fn:=qg 5 (RY Yh ZK Ki Yr GS wk Zf RG P)
def nV (s:qz n A)(H:zZ t)(st:ki t)(d:qp t=(K:Int))(a:HS t K S)(h:Qi K ks)(hm:Mo t ks c)(U:1<=c)(h2:A[2]? =some (.tab Jx Pu))(hw:w8 n A w):∃B,GP Pu [zC t,zt ks,.int (c:Int),w] A=.ok (.bl true) B/\Ext A B:=by
 obtain⟨b,J,T,x,q⟩:=Ba s H st d a h hw;have s1:=s.ext x;have f:=hw.mono s (Kn.ext s x);obtain⟨z,j,Q,X,p⟩:=V0 H st d a h f
 have:z=b:=by rw[Bool.eq_iff_iff,q,p]
 subst this;have e:=f.mono s1 (Kn.ext s1 X);have C:jF (zR Yh (zi zH (zi zU (zi qH zq)))) [some _,some _,some (.int (c:Int)),some w,none] A=.ok _ J:=jh ((zO (zu (zl rfl) (zu (zl rfl) (zu (zl rfl) zI)))).trans T);have u:zR Yr (zi zH (zi zU (zi qH zq))) [some _,some _,some (.int (c:Int)),some w,none] J=.ok _ j:=(zO (zu (zl rfl) (zu (zl rfl) (zu (zl rfl) zI)))).trans (Zq Q);cases z with
 |false=>
  obtain⟨y,Y,E,N,o⟩:=V0 H st d a h e
  have:y=false:=by
   cases y with|false=>rfl|true=>exact absurd (q.mpr (o.mp rfl)) (by decide)
  subst this;refine⟨_,qe (zL ((jV C).trans ((zD ((q9 (jh ((zO (zu u (zu zQ zI))).trans (NP false j)))).trans qD)).trans (zL (qb (O6 rfl (KO (X.at (x.at h2)) rfl ((zO (ρ:=[some _,some _,some w]) (zu (zl (i:=0) rfl) (zu (zl (i:=1) rfl) (zu (zl (i:=2) rfl) zI)))).trans (nh E)) FQ))))))),((x.trans X).trans N).trans (Ext.trans ⟨GX 8,rfl⟩ (Ext.one))⟩
 |true=>
  obtain⟨ps,rfl,r,L⟩:=q.mp rfl;have E:=CV H st d a h r L j;obtain⟨I,v,M⟩:=ni H st d a h r L e;obtain⟨l,P,g⟩:=hm.ex;have Z:=Ab H d a P (by rintro rfl;simp at g;lia) L
  rw[g]at Z;rw[(Int.add_comm _ _)]at E;generalize pq K S ps 0/lst K S ks ps+1=D at E v Z;refine⟨I,qe ((zD ((q9 C).trans qD)).trans ((zD ((q9 (jh ((zO (zu u (zu zQ zI))).trans (NP true j)))).trans qD)).trans ((zD ((ql ((zO (zu (zl rfl) (zu (zl rfl) (zu (zl rfl) zI)))).trans E)).trans rfl)).trans (zL (qb ((wQ ((zF (zl rfl) (zl rfl)).trans (by show R.ok (W.bl _) j=_;rw[aC Z]))).trans ((zO (zu ((zO (zu (zl rfl) (zu (zl rfl) (zu (zl rfl) zI)))).trans (Zq v)) (zu (zl rfl) zI))).trans (lU D I)))))))),(x.trans X).trans M⟩
variable {e:Nat}{C:Hx}{z:W}{X:Str}
abbrev rT (P:Addr):Ex:=zS (jx (zr jB (gz 1 kz P T0.idx (RG T0 0)) wG) wj qj) (zS (jx (zr jB (gz 1 kz P T1.idx (RG T1 0)) wG) wj qj) qj)
abbrev eR (n:Nat)(t:bY)(K:bZ)(p:W)(b u o:W)(x y:Option W):En:=[rO n,some (zC t),some (zt K),some p,some b,some u,some o,x,y]
def My {p o T:W}{d:Nat}{g:Nat}(c:A[1]? =some (.tab kz Pt))(b:A[d]? =some (.lst [.int (g:Int)]))(h:∀B,Ext A B->∀z,wk [T,o,z] B=.exc X B)(H:wO X=some g):∃B,rT Pt (eR n t ks p v u o (some T) (rO d)) A=.ok (.nx (eR n t ks p v u o (some T) (rO d))) B/\Ext A B:=by have a:Ext A _:=⟨GX g,rfl⟩;have x:Ext _ (A++GX g++GX g):=⟨GX g,rfl⟩;exact⟨_,(zD ((q9 (Nc (KO c rfl ((zO (ρ:=[some p,some o,some T]) (zu (zl (i:=2) rfl) (zu (zl (i:=1) rfl) (zu (zl (i:=0) rfl) zI)))).trans (h A Ext.refl p)) H) rfl (a.at b))).trans qD)).trans ((zD ((q9 (Nc (KO (a.at c) rfl ((zO (ρ:=[some o,some T]) (zu (zl (i:=1) rfl) (zu (zl (i:=0) rfl) (zu zQ zI)))).trans (PN (h _ a .non))) H) rfl (x.at (a.at b)))).trans qD)).trans qD),a.trans x⟩
def Bp {l i:Int}(h:BR A w)(x:Ext A B)(e:ZI [w,.int l,.int i] A=.ok (.bl false) A):ZI [w,.int l,.int i] B=.ok (.bl false) B:=by
 rcases h with ⟨s,rfl,H,a⟩|⟨ty,h,hn⟩
 ·rw[rw_T H a A]at e
  injection e with e
  rw[rw_T H a B,e]
 ·exact rw_N (x.ky _ _ h) hn
def G6 (P:Addr):Fn:=qg 9 (Su Ye Yd kT Qn Kf wk Zf RG P)
def nW {p:W}(s:qz n A)(hn:n≠1)(l:zZ t)(st:ki t)(Q:qp t=(K:Int))(Z:Qi K ks)(h1:A[1]? =some (.tab kz Pt)):∃B,G6 Pt [.ref n,zC t,zt ks,p] A=.ok (.bl true) B/\Kn n A B:=by
 have kb:=wU l;obtain⟨bad,A1,e1,hb,k1⟩:=lE s;obtain⟨i,A2,e2,k2⟩:=l6 k1.st;obtain⟨o,a,e3,ho,k3⟩:=mU (far:=K) k2.st Z.len (by lia)
 have c3:zR Yd (zi zH (zi (zR kT (zi zU zq)) (zi qo zq))) [rO n,some (zC t),some (zt ks),some p,some bad,some (zC (yM i)),none,none,none] A2=.ok o a:=(zO (zu (zl rfl) (zu ((zO (zu (zl rfl) zI)).trans ((Yz l A2).trans (by rw[Q]))) (zu (zl rfl) zI)))).trans e3
 have b:=(k1.trans k2).trans k3;have s3:=b.st;have S:=b.kp.get h1 (by lia)
 have J:qF (zi (qc (zi gi (zi (qF (zi qA zq)) zq))) (zi (qc (zi g8 (zi (qF (zi qU zq)) zq))) zq)) (eR n t ks p bad (zC (yM i)) o none none) a=.ok (.ref (a.length+2)) (a++[.lst [.int 0]]++[.lst [.int 1]]++[.lst [.tup [bad,.ref a.length],.tup [zC (yM i),.ref (a.length+1)]]]):=by
  have f1:=JC (zu (zl (i:=4) (ρ:=eR n t ks p bad (zC (yM i)) o none none) (A:=a) rfl) (zu (qO (zu (zQ (w:=.int 0)) zI)) zI));have f2:=JC (zu (zl (i:=5) (ρ:=eR n t ks p bad (zC (yM i)) o none none) (A:=a++[.lst [.int 0]]) rfl) (zu (qO (zu (zQ (w:=.int 1)) zI)) zI))
  have:=qO (zu f1 (zu f2 zI))
  rw[this];simp only[ai,aA]
 have g:Ext a (a++[.lst [.int 0]]++[.lst [.int 1]]++[.lst [.tup [bad,.ref a.length],.tup [zC (yM i),.ref (a.length+1)]]]):=(Ext.one.trans Ext.one).trans Ext.one;have H:=by
  have:=z0 (A:=a++[O.lst [.int 0]]++[.lst [.int 1]]) (u:=.lst [.tup [bad,.ref a.length],.tup [zC (yM i),.ref (a.length+1)]])
  simp only[ai,aA]at this;exact this
 have E:(a++[O.lst [.int 0]]++[.lst [.int 1]]++[.lst [.tup [bad,.ref a.length],.tup [zC (yM i),.ref (a.length+1)]]])[a.length]? =some (.lst [.int ((0:Nat):Int)]):=ji (ji z0);have v:(a++[O.lst [.int 0]]++[.lst [.int 1]]++[.lst [.tup [bad,.ref a.length],.tup [zC (yM i),.ref (a.length+1)]]])[a.length+1]? =some (.lst [.int ((1:Nat):Int)]):=by
  have:=z0 (A:=a++[O.lst [.int 0]]) (u:=.lst [.int 1])
  simp only[ai,aA]at this;exact ji this
 generalize a++[O.lst [.int 0]]++[.lst [.int 1]]++[.lst [.tup [bad,.ref a.length],.tup [zC (yM i),.ref (a.length+1)]]]=A4 at J g H E v;obtain⟨ρ',T,e5,x5,Y,y,d⟩:=wm (j:=⟨λA i=>(zK (.ref (a.length+2)) A).map λws=>ws[i]?,2⟩) (st:=turn (yt 7 8) (rT Pt)) (N:=2) (I:=λ_ ρ C=>Ext A4 C/\∃Y y,ρ=eR n t ks p bad (zC (yM i)) o Y y)
  (λκ ρ C hκ ⟨x,Y,y,d⟩=>by
   subst d;have ci:κ=0∨κ=1:=by lia
   rcases ci with rfl|rfl
   ·obtain⟨D,e,U⟩:=My (x.at (g.at S)) (x.at E) (λB L z=>m9 ((((hb.mono (k2.ky k1.st)).mono (k3.ky k2.st)).mono (g.trans x).ky).mono L.ky)) HV
    exact⟨_,_,D,(K7 (x.at H)).trans rfl,(kh rfl).trans e,x.trans U,_,_,rfl⟩
   ·obtain⟨D,e,U⟩:=My (x.at (g.at S)) (x.at v) (λB L z=>nc (lZ i)) Hn
    exact⟨_,_,D,(K7 (x.at H)).trans rfl,(kh rfl).trans e,x.trans U,_,_,rfl⟩)
  (λρ C ⟨x,_⟩=>(K7 (x.at H)).trans rfl) 2 0 (eR n t ks p bad (zC (yM i)) o none none) A4 (by lia) ⟨Ext.refl,_,_,rfl⟩
 subst d;have c:=g.trans x5;have r:=ho.mono c.ky;obtain⟨b1,b2,f,f1,f2,P,hbb⟩:=r.ris (lo:=1) (hi:=(K:Int)-1) (by lia) (by lia)
 have c6:zR Qn (zi Qg (zi qU (zi (zr QM (zR kT (zi zU zq)) qU) zq))) (eR n t ks p bad (zC (yM i)) o Y y) T=.ok (.bl b2) f:=(zO (zu (zl rfl) (zu zQ (zu ((zF ((zO (zu (zl rfl) zI)).trans ((Yz l T).trans (by rw[Q]))) zQ).trans rfl) zI)))).trans f2
 have go:=λ(z:R Fl) (h:zS (jx (zR Qn (zi Qg (zi qU (zi (zr QM (zR kT (zi zU zq)) qU) zq)))) (zS (kN jm) qj) qj) (zS (jx (zr jB (gz 1 kz Pt T2.idx (RG T2 0)) (qF (zi Ka zq))) wj qj) (zS (kN (zr kH (gz 1 kz Pt T3.idx (RG T3 0)) (qF (zi Ka zq)))) qj)) (eR n t ks p bad (zC (yM i)) o Y y) T=z)=>(zD (nS (i:=4) (j:=5) (ρ:=[rO n,some (zC t),some (zt ks),some p,none,none,none,none,none]) ((zO (zu (zl (i:=0) rfl) zI)).trans e1) ((zO (zu (zl (i:=0) rfl) zI)).trans e2))).trans ((zD ((ql (i:=6) c3).trans rfl)).trans ((zD ((yP (NJ J H)).trans e5)).trans h));cases b2 with
 |true=>
  exact⟨f,qe (go _ (zL ((jV c6).trans (zL (qb zQ))))),b.trans (Kn.ext s3 (c.trans P))⟩
 |false=>
  have hb1:b1=false:=by
   cases b1 with|false=>rfl|true=>exact absurd (hbb rfl) (by decide)
  subst hb1;have X:=c.trans P;have q:∀B,Ext T B->ZI [o,.int 1,.int ((K:Int)-1)] B=.ok (.bl false) B:=λB L=>Bp r L f1;have c7:=nU rfl (KO (ρ:=eR n t ks p bad (zC (yM i)) o Y y) (t:=T2) (X.at S) rfl ((zO (ρ:=[some (zC t),some p,some o]) (zu (zl (i:=0) rfl) (zu (zl (i:=2) rfl) (zu (zl (i:=1) rfl) zI)))).trans (O0 l st Q (q f P))) RR);have M:Ext f (f++GX 7++[.lst [.int 7]]):=Ext.trans ⟨GX 7,rfl⟩ Ext.one;generalize f++GX 7++[O.lst [.int 7]]=A7 at c7 M;refine⟨_,qe (go _ ((zD ((q9 c6).trans qD)).trans ((zD ((q9 c7).trans qD)).trans (zL (qb (O6 rfl (KO ((X.trans M).at S) rfl ((zO (ρ:=[some (zC t),some o]) (zu (zl (i:=0) rfl) (zu (zl (i:=1) rfl) (zu zQ zI)))).trans (PN (O0 l st Q (q A7 (P.trans M))))) RR))))))),b.trans (Kn.ext s3 ((X.trans M).trans (Ext.trans ⟨GX 7,rfl⟩ Ext.one)))⟩
end
abbrev fl (k n:Nat)(t:bY)(K:Nat)(c b a X x:Option W):En:=[rO 0,iO k,rO n,some (zC t),iO K,c,b,a,X,x]
abbrev RB (P:Addr):Ex:=zS (jx (jF (zR (GP P) (zi qH (zi Qg (zi XS (zi LG zq)))))) wj qj) qj
abbrev pE:Ev:=mQ Z6 (qC 1 [2,4] (gR (zr qw qU (zR kf (zi qo (zi gh zq))))) (qa 0) jm (qi (zR Jw (zi zU (zi qo zq)))))
abbrev gE:Ev:=mQ ja (jc (zr qm (zR Yg (zi qH (zi Qg zq))) qA))
abbrev fE:Ea:=zi wG (zi (j7 wG yo (jY qU)) (zi (zR Q2 (zi qo (zi wG zq))) (zi (zR Q2 (zi qo (zi wG zq))) zq)))
abbrev TB (p P:Addr):Ex:=zS (je 6 (zR Yl (zi qo (zi qH zq)))) (zS (je 7 gE) (zS (je 8 pE) (zS (w5 (qJ (qF fE)) (qa 9) (RB P)) (zS (jx (jF (zR (G6 p) (zi qo (zi qH (zi Qg (zi wG zq)))))) wj qj) qj))))
abbrev BL (p P:Addr):Ex:=zS (je 2 (zR Yk (zi zH (zi zU zq)))) (zS (je 3 (zR Yj (zi qo zq))) (zS (je 4 (zR kT (zi qH zq))) (zS (w5 (gR gh) (qa 5) (TB p P)) qj)))
structure qY (ns:bZ)(Pt Pu:Addr)(A:Hx):Prop where
 h0:A[0]? =some (.ro (ns.map W.int))
 h1:A[1]? =some (.tab kz Pt)
 h2:A[2]? =some (.tab Jx Pu)
section
variable {ks:bZ}{ps:bY}{k K r q:Nat}{S:Nat->List (bZ)}{C:Hx}{w z u:W}{Pu:Addr}{x2 x3 x4 x5 x6 x7 x8 x9:Option W}
def qY.kn (h:qY ns Pt Pu A)(k:Kn n A B)(H:2<n):qY ns Pt Pu B:=⟨k.kp.get h.h0 (by lia),k.kp.get h.h1 (by lia),k.kp.get h.h2 (by lia)⟩
def qY.ext (h:qY ns Pt Pu A)(x:Ext A B):qY ns Pt Pu B:=⟨x.at h.h0,x.at h.h1,x.at h.h2⟩
def nX (h:zZ t)(A:Hx):∃(c:Nat) (B:Hx),gE (fl k n t K x5 (some (zt ks)) x7 x8 x9) A=.ok (.int (c:Int)) B/\Ext A B/\Mo t ks c/\1<=c:=by
 obtain⟨c,g,a⟩:=nO h;have e:=CP h g a A;have H:=EN ((gZ t ks c).map nI);obtain⟨d,o,j⟩:=g.ex;obtain⟨l,L,b⟩:∃l L,gO ((gZ t ks c).map nI)=l::L:=List.exists_cons_of_ne_nil λz=>by
  have:=H.mem_iff.mpr (cC.mpr ⟨d,(U1 h).mpr ⟨o,j⟩,rfl⟩)
  rw[z]at this;cases this
 have f:l.length=c:=by
  have:l∈(gZ t ks c).map nI:=H.mem_iff.mp (by rw[b];exact au ..)
  obtain⟨p,i,rfl⟩:=cC.mp this;rw[ah];exact((U1 h).mp i).2
 rw[b]at e;refine⟨c,A++[O.lst ((l::L).map zt)],(jy (yq ((zF ((zO (zu (zl rfl) (zu (zl rfl) zI))).trans e) zQ).trans (jP z0 rfl)) rfl)).trans ?_,Ext.one,g,a⟩;unfold ja;rw[ah,f]
def Av (s:qz n A)(J:1<=K)(j:K<=8):∃(P:bY) (B:Hx),pE (fl k n t K x5 x6 x7 x8 x9) A=.ok (.tup (P.map zt)) B/\1<=P.length/\P.length<=3/\(∀m∈P,m.length=K)/\Kn n A B:=by
 obtain⟨q,M,o,p,x,_⟩:=UE s (m:=3) (by decide) (by decide)
 have E:zr qw qU (zR kf (zi qo (zi gh zq))) (fl k n t K x5 x6 x7 x8 x9) A=.ok (.int ((1+q:Nat):Int)) M:=(zF zQ ((zO (zu (zl rfl) (zu zQ zI))).trans o)).trans (by rw[Int.natCast_add];rfl)
 obtain⟨d,v,B,e,⟨y,H⟩,⟨P,b,l,r⟩,g⟩:=ZM (nl:=1) (cap:=[2,4]) (tw:=qa 0) (em:=qi (zR Jw (zi zU (zi qo zq)))) (N:=1+q)
  (I:=λi w v C=>(∃y,w=[y,rO n,iO K])/\(∃P:bY,v=P.map zt/\P.length=i/\∀m∈P,m.length=K)/\Kn n A C) (Zd E (wK (by lia))) rfl
  (λi w v C z ⟨⟨y,H⟩,⟨P,b,l,r⟩,c⟩=>by
   subst H b;obtain⟨m,D,e,L,_,f⟩:=nq c.st J j;refine⟨.int (0+(i:Int)),_,wR z,rfl,.inl ⟨C,_,_,D,zQ,Ze ((zO (zu (zl rfl) (zu (zl rfl) zI))).trans e) (by rw[ah];unfold zM;lia),⟨_,rfl⟩,⟨P++[m],by rw[aS];rfl,by rw[ai,l];rfl,λu a=>?_⟩,c.trans f⟩⟩
   rcases cH.mp a with a|a
   ·exact r u a
   ·rw[cG.mp a];exact L)
  (λw v C _=>wN (by lia)) ⟨⟨none,rfl⟩,⟨[],rfl,rfl,λm h=>by cases h⟩,x⟩
 subst b;exact⟨P,B,Z1 e,by lia,by lia,r,g⟩
def nY (s:qz n A)(v:1<=K)(c:K<=8)(L:1<=ps.length)(l:ps.length<=3)(b:∀m∈ps,m.length=K):∃(r:Nat) (o:List W) (B:Hx),qF fE (fl k n t K x5 x6 x7 (some (.tup (ps.map zt))) x9) A=.ok (.ref r) B/\B[r]? =some (.lst o)/\(∀w∈o,w8 n B w)/\Kn n A B:=by
 obtain⟨U,y,f,H,i⟩:=N6 s L (by lia) v c b
 obtain⟨u,e,E,h,p⟩:=N6 i.st L (by lia) v c b
 have a:=i.trans p;have x:Ext e (e++[O.lst [.tup (ps.map zt),.tup ((ps.take 1).map zt),U,u]]):=Ext.one;have g:=Kn.ext a.st x;refine⟨_,_,_,(qO (zu (zl rfl) (zu ((NK (zl rfl) rfl rfl).trans (by rw[O7,List.map_take])) (zu ((zO (zu (zl rfl) (zu (zl rfl) zI))).trans f) (zu ((zO (zu (zl rfl) (zu (zl rfl) zI))).trans E) zI))))),z0,λw q=>?_,a.trans g⟩
 have d:∀m∈ps,m.length<=8:=λm j=>by rw[b m j];exact c
 simp only[bL,bx,or_false]at q;rcases q with rfl|rfl|rfl|rfl
 ·exact PQ d (by lia)
 ·exact PQ (λm j=>d m (List.mem_of_mem_take j)) (by rw[bc];lia)
 ·exact(H.mono i.st p).mono a.st g
 ·exact h.mono a.st g
def nZ (s:qz n A)(hn:2<n)(h:qY ns Pt Pu A)(a:zZ t)(st:ki t)(d:qp t=(K:Int))(J:HS t K S):∃p o Y y B,TB Pt Pu (fl k n t K x5 x6 x7 x8 x9) A=.ok (.nx (fl k n t K x5 p o Y y)) B/\Kn n A B:=by
 have kb:=wU a;obtain⟨ks,A1,U,b,k1⟩:=nj s a d;obtain⟨c,A2,T,u,hm,E⟩:=nX a A1;have k2:=Kn.ext k1.st u;obtain⟨ps,A3,Q,l1,L,z,k3⟩:=Av k2.st (show 1<=K by lia) (by lia)
 obtain⟨r,ws,g,P,f,hw,w⟩:=nY k3.st (show 1<=K by lia) (by lia) l1 L z
 have kk:=((k1.trans k2).trans k3).trans w;have s4:=kk.st;obtain⟨l,A5,N,X,y,H⟩:=wm (j:=⟨λA i=>(zK (.ref r) A).map λws=>ws[i]?,ws.length⟩) (st:=turn (qa 9) (RB Pu)) (I:=λ_ ρ C=>Ext g C/\∃y,ρ=fl k n t K x5 (some (zt ks)) (some (.int (c:Int))) (some (.tup (ps.map zt))) y)
  (λi ρ C hi ⟨x,y,H⟩=>by subst H;obtain⟨D,e,q⟩:=nV (s4.ext x) a st d J b hm E (x.at (h.kn kk hn).h2) ((hw _ (aJ hi)).mono s4 (Kn.ext s4 x));exact⟨ws[i],_,D,(K7 (x.at f)).trans (by rw[aa hi]),(kh rfl).trans ((zD ((q9 (jh ((zO (zu (zl rfl) (zu (zl rfl) (zu (zl rfl) (zu (zl rfl) zI))))).trans e))).trans qD)).trans qD),x.trans q,_,rfl⟩)
  (λρ C ⟨x,_⟩=>(K7 (x.at f)).trans (by rw[aw (ax _)])) ws.length 0 _ g (by lia) ⟨Ext.refl,_,rfl⟩
 subst H;have k5:=kk.trans (Kn.ext s4 X);obtain⟨Z,M,v⟩:=nW k5.st (by lia) a st d b (h.kn k5 hn).h1
 refine⟨some (zt ks),some (.int (c:Int)),some (.tup (ps.map zt)),y,Z,?_,k5.trans v⟩;refine(zD ((ql ((zO (zu (zl rfl) (zu (zl rfl) zI))).trans U)).trans rfl)).trans ?_;refine(zD ((ql T).trans rfl)).trans ?_;refine(zD ((ql Q).trans rfl)).trans ?_;refine(zD ((yP (NJ P f)).trans N)).trans ?_;exact(zD ((q9 (jh ((zO (zu (zl rfl) (zu (zl rfl) (zu (zl rfl) (zu (zl rfl) zI))))).trans M))).trans qD)).trans qD
def n0 (h:qY ns Pt Pu A):∃s y3 r c b a Y y B,BL Pt Pu [rO 0,iO k,x2,x3,x4,x5,x6,x7,x8,x9] A=.ok (.nx [rO 0,iO k,s,y3,r,c,b,a,Y,y]) B/\qY ns Pt Pu B:=by
 have N:=gH h.h2;obtain⟨o,E,U⟩:=lO h.h0 k;generalize hn:A.length=n at E U;obtain⟨t,l,z,d,g,X,_⟩:=lM U;have T:=Fy g;have P:=wU d;obtain⟨K,p⟩:=aY (show 0<=qp t by lia)
 obtain⟨S,w⟩:=Bs d T K;have h2:=(h.ext Ext.one).kn X (by lia)
 obtain⟨q,B,x,v,c,b,a,Y,y,H⟩:=wm (j:=kZ 0 3) (st:=turn (qa 5) _) (I:=λ_ Q C=>Kn n l C/\∃c b a Y y,Q=fl k n t K c b a Y y)
  (λi Q C hi ⟨f,c,b,a,Y,y,H⟩=>by
   subst H;obtain⟨M,L,J,Z,D,e,u⟩:=nZ f.st (by lia) (h2.kn f (by lia)) d T p w
   exact⟨_,_,D,wR hi,(kh rfl).trans e,f.trans u,_,_,_,_,_,rfl⟩)
  (λQ C _=>wN (by lia)) 3 0 _ l (by lia) ⟨⟨Kp.refl,X.st⟩,_,_,_,_,_,rfl⟩
 subst H;refine⟨rO n,some (zC t),iO K,c,b,a,Y,y,B,?_,h2.kn v (by lia)⟩
 refine(zD ((ql ((zO (zu (zl rfl) (zu (zl rfl) zI))).trans E)).trans rfl)).trans ?_;refine(zD ((ql ((zO (zu (zl rfl) zI)).trans z)).trans rfl)).trans ?_;refine(zD ((ql ((zO (zu (zl rfl) zI)).trans ((Yz d l).trans (by rw[p])))).trans rfl)).trans ?_
 exact(zD ((yP (Zd (k:=3) zQ (by decide))).trans x)).trans qD
end
def U9 (p P:Addr):Fn:=qg 10 (M3 Q2 Yg kT Yj (G6 p) (GP P) Jw Yk kf Yl)
def BS:N7 kz Jx U9:=λN J p P=>by
 have s:zK (.ref 0) [.ro _,.tab kz p,.tab Jx P]=some (N.map W.int):=rfl;generalize q:[O.ro _,.tab kz p,.tab Jx P]=A at s;have M:qY N p P A:=by rw[<- q];exact⟨rfl,rfl,rfl⟩
 have E:mQ ja (jc zH) [rO 0,none,none,none,none,none,none,none,none,none] A=.ok (.int N.length) A:=by rw[jy (yq (zl rfl) s)];unfold ja;rw[ah]
 have Q:zr U3 qU (zr U8 _ QX) [rO 0,none,none,none,none,none,none,none,none,none] A=
   .ok (.int _) A:=
  (zF zQ ((zF E zQ).trans rfl)).trans rfl
 generalize o:(if (if (4:Int)<N.length then 4 else(N.length:Int)) > 1 then(if (4:Int)<N.length then 4 else(N.length:Int)) else 1)=v at Q;have H:jA v=true:=by
  have:0<=v/\v<1000:=by
   rw[<- o]
   split<;>split<;>lia
  obtain⟨k,rfl⟩:=aY this.1;exact Es (by lia)
 obtain⟨n,B,e,_,g,f,L,d,c,b,a,Y,y,rfl⟩:=wm (j:=kZ 0 v.toNat) (st:=turn (qa 1) _) (I:=λ_ K B=>qY N p P B/\∃g f L d c b a Y y,K=[rO 0,g,f,L,d,c,b,a,Y,y])
  (λi K B S ⟨M,g,f,L,d,c,b,a,Y,y,h⟩=>by subst h;obtain⟨D,C,x,w,u,t,Z,z,r,e,l⟩:=n0 M;refine⟨_,_,r,wR S,(kh ?_).trans e,l,_,_,_,_,_,_,_,_,_,rfl⟩;rw[bI];rfl)
  (λK B _=>wN (by lia)) v.toNat 0 [rO 0,none,none,none,none,none,none,none,none,none] A (by lia) ⟨M,_,_,_,_,_,_,_,_,_,rfl⟩
 refine⟨B,qe ?_⟩;exact(zD ((yP (Zd Q H)).trans e)).trans (zL (qb zQ))
end G
namespace Mi
open PySem PySem.Spec PyProof.Rows L2
def zb7 {y z:Str}{l:PySem.W.OpenLaw}{k:Nat}{q:Program}{loose:cf}{N:World->Heap->Prop}{d:DefRec}{Kp:Params->Frag}{Z X:Str}{fs:Addr->Addr->Fn}{P:Addr}(ok:N7 Z X fs)
  (hn:l.most=some 63)(C:d.params.defaults=[])(hr:jb k callerA)(ne:Pt≠P)(hY:∀(w:World)(h:Heap),N w h->(Kp w.params).In h)(hT:∀(w:World)(h:Heap),N w h->h.get? Pt=some (tabObj #[])/\h.get? P=some (tabObj #[]))
  (ht:∀p,G4 (Kp p) y Pt=true)(J:∀p,(Kp p).lookup Pt=none)(hu:∀p,G4 (Kp p) z P=true)(U:∀p,(Kp p).lookup P=none)
  (F:∀(w:World)(mg:cn)(t:Addr)(h:Heap),(Kp w.params).In h->h.Ns mainGlobals mg->mg d.name=some (.ref t)->(∃c,tabIn (Kp w.params) y=some (c,Pt)/\codeHdIn (Kp w.params) c Pt=true)->(∃c,tabIn (Kp w.params) z=some (c,P)/\codeHdIn (Kp w.params) c P=true)->
   ∃fd:FuncData,(∀(s:Shared)(u:Value),BindsTo s fd ⟨[u],[]⟩ [(x,u)])/\∀base:Heap,(Kp w.params).In base->base.Ns mainGlobals mg->BMain mg base->yu l.prog w (Kp w.params) mg base yY k t fd [x] (ZD (Kp w.params) 1 (fs Pt P))):
  PySem.W.WalkO q loose XP N l.row.toRowW d [] (λf vs=>PySem.call f vs):=by
 refine Att.F6 (n:=63) hn C λw Q S mg mb t o pm cd doc a vs ns G Y ho hd hcd' B j hints hlen hg=>?_;have K:=hY w _ Y;obtain⟨fd,hb,hF⟩:=F w mg t _ K G.T.g B (Gq (ht w.params)) (Gq (hu w.params));obtain⟨c,_,D⟩:=Gq (ht w.params);obtain⟨c2,_,i⟩:=Gq (hu w.params);obtain⟨hP,hU⟩:=hT w _ Y;have hc:isCodeTable S.heap Pt:=((codeHd_of_K K D).tab hP).isCodeTable;have E:isCodeTable S.heap P:=((codeHd_of_K K i).tab hU).isCodeTable;have I:BMain mg S.heap:=by obtain⟨bm,ob,b1,b2,M,b4,b5,L⟩:=G.T.bmain;refine⟨bm,ob,b1,b2,λz=>?_,M,b4,b5,L⟩;obtain⟨o,es,ep,e,hd,_⟩:=G.T.g;rw[z,e]at M;cases M;rw[hd]at L;cases L
 refine D5 K G.T.g G.T.b G.T.builtins G.T.nolimit hg j hints (bo hlen (by decide)) hr hP (J w.params) hc hU (U w.params) E I hF hb λH h1 h2 h3=>?_
 refine⟨rfl,[a,Pt,P],[.ro (ns.map W.int),.tab Z Pt,.tab X P],[.ref 0],ER ne h1 h2 h3,.one ⟨a,rfl,rfl⟩,?_⟩;obtain⟨A,e⟩:=ok ns hlen Pt P;rw[e];exactλox H' v _ _ r=>r
end Mi
namespace G
open PySem L2 Mi
section
variable {K:Frag}
def Rb (Z:Zz K h mg){PG:gA}{l:Nat->Fn}(H:∀k,Jj P w K mg base j (PG k) (l k)):qv P w K mg base (j+1) "_law_refused" 1 ((qg 4 (WZ PG l))):=by obtain⟨f,d,F,a⟩:=Z.T.Hk;exact(Hh (k:=j) Z.B Z.C Z.T.zdQ F (bX Z.X Z.G a) (ax _) H)
def LQ (Z:Zz K h mg)(H:tabIn K "_law_refusals_right"=some (c,Pt))(b:BMain mg base)(C:CodeHd base c Pt):qv P w K mg base 11 "_law_refusals_right" 4 (G6 Pt):=by obtain⟨f,d,F,a⟩:=Z.T.LY;exact LW (k:=10) (j:=8) (kk:=10) Z.B F a H (bX Z.X Z.G a) b C (IH Z).up (Ic Z).up (Kk Z).up (Ht Z).up (IX Z).up (by decide) (λbase=>(Gb Z).up) (λbase=>(VY Z).up) (λt base PG L=>(Rb Z L).imp λu A _=>NU u A)
def IG (Z:Zz K h mg)(H:tabIn K "_law_right"=some (c,Pt))(b:BMain mg base)(C:CodeHd base c Pt):qv P w K mg base 11 "_law_right" 4 (GP Pt):=by obtain⟨f,d,F,a⟩:=Z.T.FV;exact Fo (k:=10) (j:=8) (kk:=10) Z.B F a H (bX Z.X Z.G a) b C (IS Z).up (Eg Z).up (Fe Z).up (E6 Z).up (k7 Z).up (by decide) (λbase=>(Gb Z).up) (λbase=>(VY Z).up) (λt base PG L=>(Rb Z L).imp λu A _=>NU u A)
def n6 (Z:Zz K h mg){d p:Addr}(F:kx K "law" "law" Xn f fd)(t:tabIn K "_law_refusals_right"=some (c,Pt))(u:tabIn K "_law_right"=some (d,p))(H:BMain mg base)(C:CodeHd base c Pt)(D:CodeHd base d p):yu P w K mg base yY 12 f fd ["_law_script"] (ZD K 1 (U9 Pt p)):=
 o_law (k:=11) Z.B F (FW Z).up (IZ Z).up (Kk Z).up (HZ Z).up (LQ Z t H C) (IG Z u H D) (IW Z).up (Fm Z).up (j8 Z).up (FY Z).up
def all_mk {l:PySem.W.OpenLaw}{n P:Addr}(X:K.In h)(Gl:h.Ns mainGlobals mg)(b:mg "law"=some (.ref n))(T:Tx K)(t:∃c,tabIn K "_law_refusals_right"=some (c,Pt)/\codeHdIn K c Pt=true)(H:∃c,tabIn K "_law_right"=some (c,P)/\codeHdIn K c P=true):
  ∃x:FuncData,(∀(s:Shared)(v:Value),BindsTo s x ⟨[v],[]⟩ [("_law_script",v)])/\∀r:Heap,K.In r->r.Ns mainGlobals mg->BMain mg r->yu l.prog w K mg r yY 12 n x ["_law_script"] (ZD K 1 (U9 Pt P)):=by
 obtain⟨c,t,g⟩:=t;obtain⟨d,H,u⟩:=H;obtain⟨f,x,F,a⟩:=T.zeg;have e:=b.symm.trans (bX X Gl a);cases e;obtain⟨q,p,kV,D,y,A,C,ct,o,rfl,L,j⟩:=id F.ex;exact⟨_,λs v=>.of_eq rfl,λr i N B=>n6 (zz X Gl T) F t H B (codeHd_of_K i g) (codeHd_of_K i u)⟩
end
end G
namespace PySem.W.Fast
def tw17880948536741626089:Nat:=0
def tw13191509072749847895:Nat:=0
def tw8380836330584740270:Nat:=0
def tw3951673172441633797:Nat:=0
def tw13413258468752445007:Nat:=0
def tw4554018990962243441:Nat:=0
def tw8394580680560148358:Nat:=0
def tw14578070666135066829:Nat:=0
def tw11378369685922004502:Nat:=0
def tw15217440227667517504:Nat:=0
def tw9753840479811561096:Nat:=0
def tw13583972293028916181:Nat:=0
def tw7911735827380591097:Nat:=0
def tw7336738836993850003:Nat:=0
def tw8230297389107201286:Nat:=0
def tw3928590971837305401:Nat:=0
def tw2617337521160184614:Nat:=0
def tw8084910201403371874:Nat:=0
def tw1770660145387847059:Nat:=0
def tw12746612444041162751:Nat:=0
def tw3299679472195199403:Nat:=0
def tw7933298387255811226:Nat:=0
def tw195904730374835219:Nat:=0
def tw17773851898095198901:Nat:=0
def tw17598825176419286103:Nat:=0
def tw11058473199747503563:Nat:=0
def tw3250995578060324281:Nat:=0
def tw15599855489204023795:Nat:=0
def tw14560981886710831904:Nat:=0
def tw7619337535853437750:Nat:=0
def tw3247161280182019600:Nat:=0
def tw8408557112769869111:Nat:=0
def tw16594472245526086028:Nat:=0
def tw9200132390340603667:Nat:=0
def tw18226550575426056981:Nat:=0
def tw1044890838208217422:Nat:=0
def tw7264539450353928409:Nat:=0
def tw13177186729403373971:Nat:=0
def tw14224543002985101627:Nat:=0
def tw4387810817404259517:Nat:=0
def tw4114801271372539809:Nat:=0
def tw15116225395805834138:Nat:=0
def tw10507250217640626061:Nat:=0
def tw5002757330439394936:Nat:=0
def tw6099940193353476308:Nat:=0
def tw14946732280330741414:Nat:=0
end PySem.W.Fast
open PySem PySem.W PyProof.Rows
set_option maxRecDepth 100000 in
set_option maxHeartbeats 0 in
theorem PySem.Challenge.cw_nearkinds_k51_papers_of_lots_holds : PySem.Challenge.rw_nearkinds_k51_papers_of_lots.Holds := by
 w_on;o_law;k_head;(case hw=>w_witness2)
 k_fill
 refine' Mi.zb7 (y := "_law_refusals_right") (z := "_law_right") (l:=PySem.Challenge.rw_nearkinds_k51_papers_of_lots) (k:=12) (x := "_law_script") G.BS rfl rfl ⟨rfl,by decide,by decide,rfl⟩ ?ne (λw h Y=>PySem.W.km_in_of Y) (λw h Y=>⟨km_tabs_of Y _ ?m1,km_tabs_of Y _ ?m2⟩) ?ht ?hKP ?hu ?hKU ?F
 case m1=>exact ao _ (au ..)
 case m2=>exact au ..
 case ne=>decide
 case ht=>exact λp=>by kernel_rfl
 case hKP=>exact λp=>by kernel_rfl
 case hu=>exact λp=>by kernel_rfl
 case hKU=>exact λp=>by kernel_rfl
 case F=>
  intro w mg fa h KX Gl hmg ht hu;have T:G.Tx (L2.LM KX):=by
   dsimp only [L2.LM]
   apply G.Tx.mk<;>first | (refine' Mi.zew ?a ?l ?c ?k;(case a=>k_is);(case l=>k_is);(case c=>k_is);(case k=>k_is)) | (refine' Mi.zd9 ?a;(case a=>k_is)) | k_is|kernel_rfl
  exact G.all_mk KX Gl hmg T ht hu
